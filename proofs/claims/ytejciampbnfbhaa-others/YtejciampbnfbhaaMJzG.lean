import Derived.Test.YtejciampbnfbhaaMJzA
import Derived.Test.YtejciampbnfbhaaMJf
set_option linter.unusedVariables false
set_option linter.unusedSimpArgs false
set_option maxRecDepth 100000
set_option maxHeartbeats 3200000
namespace Go.Proofs.Ytejciampbnfbhaa
open Go.RowKit Ie
section
variable {w : World} {Q : Cc} {K : Ck} {es : Env} {ops : List Opr} {e e' : E} {T : Sy.Tr} {v : Value} {row m : Int}
theorem Expr_app (h : CM w Q K es ops e) (hv : Kids w Q.F v T.kids) (hk : T.kind = 8) (HC : ∀ {w1 : World}, CM w1 Q K es ops e → Kids w1 Q.F v T.kids → Calls Try.prog 65 #[.pointer (some ⟨Q.c, 0, none⟩), nodeV T v, .int .i64 row] w1 fun en w' => en = .returned (.int .i64 m) ∧ CS w1 Q K es ops w' e') :
  Calls Try.prog 36 #[.pointer (some ⟨Q.c, 0, none⟩), nodeV T v, .int .i64 row] w fun en w' => en = .returned (.int .i64 m) ∧ CS w Q K es ops w' e' := by
 have hb := World.alloc_heap_new w (nodeB T v)
 have hq := hid (al_ch w (nodeB T v))
 have h1 := hid (h.quiet hq.out)
 obtain ⟨p0, p1, p2, p3, p4⟩ := node_cells hb
 obtain ⟨c0, -, -, -, -⟩ := h1.out.cells
 have HO := Ok_any h1.out
 have HA := HC h1.out (hv.quiet hq.out)
 unfold nodeV at HA
 rw [hk] at p0 HA
 clear hb hk h hv HC
 go_enter Try.func36, Try.ntmps36
 go_wp2_with (first | (go_at_call 26; refine HO.mono ?_; clear HO; rintro en w1 ⟨rfl, hw1⟩; obtain rfl := hw1.symm) | (go_at_call 65; refine HA.mono ?_; clear HA; rintro en w2 ⟨rfl, hg⟩))
 go_ret
 exact ⟨rfl, CS.pre hq.out hg⟩
theorem Expr_let (h : CM w Q K es ops e) (hv : Kids w Q.F v T.kids) (hk : T.kind = 9) (HC : ∀ {w1 : World}, CM w1 Q K es ops e → Kids w1 Q.F v T.kids → Calls Try.prog 66 #[.pointer (some ⟨Q.c, 0, none⟩), nodeV T v, .int .i64 row] w1 fun en w' => en = .returned (.int .i64 m) ∧ CS w1 Q K es ops w' e') :
  Calls Try.prog 36 #[.pointer (some ⟨Q.c, 0, none⟩), nodeV T v, .int .i64 row] w fun en w' => en = .returned (.int .i64 m) ∧ CS w Q K es ops w' e' := by
 have hb := World.alloc_heap_new w (nodeB T v)
 have hq := hid (al_ch w (nodeB T v))
 have h1 := hid (h.quiet hq.out)
 obtain ⟨p0, p1, p2, p3, p4⟩ := node_cells hb
 obtain ⟨c0, -, -, -, -⟩ := h1.out.cells
 have HO := Ok_any h1.out
 have HA := HC h1.out (hv.quiet hq.out)
 unfold nodeV at HA
 rw [hk] at p0 HA
 clear hb hk h hv HC
 go_enter Try.func36, Try.ntmps36
 go_wp2_with (first | (go_at_call 26; refine HO.mono ?_; clear HO; rintro en w1 ⟨rfl, hw1⟩; obtain rfl := hw1.symm) | (go_at_call 66; refine HA.mono ?_; clear HA; rintro en w2 ⟨rfl, hg⟩))
 go_ret
 exact ⟨rfl, CS.pre hq.out hg⟩
theorem Expr_case (h : CM w Q K es ops e) (hv : Kids w Q.F v T.kids) (hk : T.kind = 17) (HC : ∀ {w1 : World}, CM w1 Q K es ops e → Kids w1 Q.F v T.kids → Calls Try.prog 67 #[.pointer (some ⟨Q.c, 0, none⟩), nodeV T v, .int .i64 row] w1 fun en w' => en = .returned (.int .i64 m) ∧ CS w1 Q K es ops w' e') :
  Calls Try.prog 36 #[.pointer (some ⟨Q.c, 0, none⟩), nodeV T v, .int .i64 row] w fun en w' => en = .returned (.int .i64 m) ∧ CS w Q K es ops w' e' := by
 have hb := World.alloc_heap_new w (nodeB T v)
 have hq := hid (al_ch w (nodeB T v))
 have h1 := hid (h.quiet hq.out)
 obtain ⟨p0, p1, p2, p3, p4⟩ := node_cells hb
 obtain ⟨c0, -, -, -, -⟩ := h1.out.cells
 have HO := Ok_any h1.out
 have HA := HC h1.out (hv.quiet hq.out)
 unfold nodeV at HA
 rw [hk] at p0 HA
 clear hb hk h hv HC
 go_enter Try.func36, Try.ntmps36
 go_wp2_with (first | (go_at_call 26; refine HO.mono ?_; clear HO; rintro en w1 ⟨rfl, hw1⟩; obtain rfl := hw1.symm) | (go_at_call 67; refine HA.mono ?_; clear HA; rintro en w2 ⟨rfl, hg⟩))
 go_ret
 exact ⟨rfl, CS.pre hq.out hg⟩
theorem Expr_do (h : CM w Q K es ops e) (hv : Kids w Q.F v T.kids) (hk : T.kind = 19) (HC : ∀ {w1 : World}, CM w1 Q K es ops e → Kids w1 Q.F v T.kids → Calls Try.prog 68 #[.pointer (some ⟨Q.c, 0, none⟩), nodeV T v, .int .i64 row] w1 fun en w' => en = .returned (.int .i64 m) ∧ CS w1 Q K es ops w' e') :
  Calls Try.prog 36 #[.pointer (some ⟨Q.c, 0, none⟩), nodeV T v, .int .i64 row] w fun en w' => en = .returned (.int .i64 m) ∧ CS w Q K es ops w' e' := by
 have hb := World.alloc_heap_new w (nodeB T v)
 have hq := hid (al_ch w (nodeB T v))
 have h1 := hid (h.quiet hq.out)
 obtain ⟨p0, p1, p2, p3, p4⟩ := node_cells hb
 obtain ⟨c0, -, -, -, -⟩ := h1.out.cells
 have HO := Ok_any h1.out
 have HA := HC h1.out (hv.quiet hq.out)
 unfold nodeV at HA
 rw [hk] at p0 HA
 clear hb hk h hv HC
 go_enter Try.func36, Try.ntmps36
 go_wp2_with (first | (go_at_call 26; refine HO.mono ?_; clear HO; rintro en w1 ⟨rfl, hw1⟩; obtain rfl := hw1.symm) | (go_at_call 68; refine HA.mono ?_; clear HA; rintro en w2 ⟨rfl, hg⟩))
 go_ret
 exact ⟨rfl, CS.pre hq.out hg⟩
theorem Expr_handle (h : CM w Q K es ops e) (hv : Kids w Q.F v T.kids) (hk : T.kind = 20) (HC : ∀ {w1 : World}, CM w1 Q K es ops e → Kids w1 Q.F v T.kids → Calls Try.prog 69 #[.pointer (some ⟨Q.c, 0, none⟩), nodeV T v, .int .i64 row] w1 fun en w' => en = .returned (.int .i64 m) ∧ CS w1 Q K es ops w' e') :
  Calls Try.prog 36 #[.pointer (some ⟨Q.c, 0, none⟩), nodeV T v, .int .i64 row] w fun en w' => en = .returned (.int .i64 m) ∧ CS w Q K es ops w' e' := by
 have hb := World.alloc_heap_new w (nodeB T v)
 have hq := hid (al_ch w (nodeB T v))
 have h1 := hid (h.quiet hq.out)
 obtain ⟨p0, p1, p2, p3, p4⟩ := node_cells hb
 obtain ⟨c0, -, -, -, -⟩ := h1.out.cells
 have HO := Ok_any h1.out
 have HA := HC h1.out (hv.quiet hq.out)
 unfold nodeV at HA
 rw [hk] at p0 HA
 clear hb hk h hv HC
 go_enter Try.func36, Try.ntmps36
 go_wp2_with (first | (go_at_call 26; refine HO.mono ?_; clear HO; rintro en w1 ⟨rfl, hw1⟩; obtain rfl := hw1.symm) | (go_at_call 69; refine HA.mono ?_; clear HA; rintro en w2 ⟨rfl, hg⟩))
 go_ret
 exact ⟨rfl, CS.pre hq.out hg⟩
end
end Go.Proofs.Ytejciampbnfbhaa

namespace Go.Proofs.Ytejciampbnfbhaa
open Go.RowKit Ie
section
variable {w : World} {Q : Cc} {K : Ck} {es : Env} {ops : List Opr} {e e' : E} {T : Sy.Tr} {v : Value} {row m : Int}
theorem Cases_any {f k : Nat} (ih : InfOK f ops k) {a b c d z : Sy.Tr} {l : List Sy.Tr} (h : CM w Q K es ops e) (hl : es.length + 2 * (k + 1) < 1000000) (hv : Kids w Q.F v T.kids) (hk : T.kind = 17) (hks : T.kids = a :: b :: c :: d :: z :: l) (hp : ((exprE f ops k (es.map (·.1)) e a row).bind fun a => (a.2.var).bind fun v => (v.2.put 4 v.1 (-1) 0).bind fun l => (samE f l.2 a.1 l.1).bind fun e => (exprE f ops k (es.map (·.1)) e b row).bind fun t => (exprE f ops k (es.map (·.1) ++ [plain c.name v.1, plain d.name l.1]) t.2 z row).bind fun u => (samE f u.2 u.1 t.1).map fun e => (t.1, e)) = some (m, e')) :
  Calls Try.prog 67 #[.pointer (some ⟨Q.c, 0, none⟩), nodeV T v, .int .i64 row] w fun en w' => en = .returned (.int .i64 m) ∧ CS w Q K es ops w' e' := by
 obtain ⟨x, hp_x, g0⟩ := Option.bind_eq_some_iff.1 hp
 obtain ⟨y, hp_y, g1⟩ := Option.bind_eq_some_iff.1 g0
 obtain ⟨q, hp_q, g2⟩ := Option.bind_eq_some_iff.1 g1
 obtain ⟨e1, hp_e1, g3⟩ := Option.bind_eq_some_iff.1 g2
 obtain ⟨t, hp_t, g4⟩ := Option.bind_eq_some_iff.1 g3
 obtain ⟨u, hp_u, g5⟩ := Option.bind_eq_some_iff.1 g4
 obtain ⟨e3, hp_e3, g9⟩ := Option.map_eq_some_iff.1 g5
 obtain ⟨rfl, rfl⟩ := Prod.mk.inj g9
 clear g0 g1 g2 g3 g4 g5 g9
 rw [hks] at hv
 obtain ⟨g, cp, hvv, hFg, hn⟩ := hv.cons (by simp)
 simp only [List.length_cons] at hvv
 subst hvv
 have j0 : (0 : Int) < (l.length : Int) + 1 + 1 + 1 + 1 + 1 := by omega
 have j1 : (1 : Int) < (l.length : Int) + 1 + 1 + 1 + 1 + 1 := by omega
 have j2 : (2 : Int) < (l.length : Int) + 1 + 1 + 1 + 1 + 1 := by omega
 have j3 : (3 : Int) < (l.length : Int) + 1 + 1 + 1 + 1 + 1 := by omega
 have j4 : (4 : Int) < (l.length : Int) + 1 + 1 + 1 + 1 + 1 := by omega
 obtain ⟨va, Aa, hka⟩ := hn 0 a rfl
 obtain ⟨vb, Ab, hkb⟩ := hn 1 b rfl
 obtain ⟨vc, Ac, hkc⟩ := hn 2 c rfl
 obtain ⟨vd, Ad, hkd⟩ := hn 3 d rfl
 obtain ⟨vz, Az, hkz⟩ := hn 4 z rfl
 have hb := World.alloc_heap_new w (nodeB T (.slice (some ⟨g, 0, none⟩) (l.length + 1 + 1 + 1 + 1 + 1) cp))
 have hq := hid (al_ch w (nodeB T (.slice (some ⟨g, 0, none⟩) (l.length + 1 + 1 + 1 + 1 + 1) cp)))
 have h1 := hid (h.box (T := T) (v := .slice (some ⟨g, 0, none⟩) (l.length + 1 + 1 + 1 + 1 + 1) cp))
 obtain ⟨p0, p1, p2, -, p4⟩ := node_cells hb
 rw [hk] at p0
 have P0 := hid p0
 have P1 := hid p1
 have P2 := hid p2
 have P4 := hid p4
 have c0 := h1.out.c0
 have HO := h1.out.ok0
 replace Aa := hid (Aa.of_heap (hq.out.same g Aa.lt (fun h => h)))
 replace hka := hid (Kids.and (n := w.heap.size) (hka.quiet hq.out))
 replace Ab := hid (Ab.of_heap (hq.out.same g Ab.lt (fun h => h)))
 replace hkb := hid (Kids.and (n := w.heap.size) (hkb.quiet hq.out))
 replace Ac := hid (Ac.of_heap (hq.out.same g Ac.lt (fun h => h)))
 replace hkc := hid (Kids.and (n := w.heap.size) (hkc.quiet hq.out))
 replace Ad := hid (Ad.of_heap (hq.out.same g Ad.lt (fun h => h)))
 replace hkd := hid (Kids.and (n := w.heap.size) (hkd.quiet hq.out))
 replace Az := hid (Az.of_heap (hq.out.same g Az.lt (fun h => h)))
 replace hkz := hid (Kids.and (n := w.heap.size) (hkz.quiet hq.out))
 replace hFg := hid hFg
 replace hp_x := hid hp_x
 replace hp_y := hid hp_y
 replace hp_q := hid hp_q
 replace hp_e1 := hid hp_e1
 replace hp_t := hid hp_t
 replace hp_u := hid hp_u
 replace hp_e3 := hid hp_e3
 clear hb hk hks hp h hv hn p1 p2 p4
 have hc1 : Hid (Ch (K.own (Q.and w.heap.size)) (w.alloc (nodeB T (.slice (some ⟨g, 0, none⟩) (l.length + 1 + 1 + 1 + 1 + 1) cp))) (w.alloc (nodeB T (.slice (some ⟨g, 0, none⟩) (l.length + 1 + 1 + 1 + 1 + 1) cp)))) := hid (Ch.refl _ _)
 have hm1 : Hid (More (w.alloc (nodeB T (.slice (some ⟨g, 0, none⟩) (l.length + 1 + 1 + 1 + 1 + 1) cp))) (K.own (Q.and w.heap.size)) (K.own (Q.and w.heap.size))) := hid fun _ h => .inl h
 go_enter Try.func67, Try.ntmps67
 have HC : Calls Try.prog 36 #[.pointer (some ⟨Q.c, 0, none⟩), nodeV a va, .int .i64 row] (w.alloc (nodeB T (.slice (some ⟨g, 0, none⟩) (l.length + 1 + 1 + 1 + 1 + 1) cp))) fun en w' => en = .returned (.int .i64 x.1) ∧ CS (w.alloc (nodeB T (.slice (some ⟨g, 0, none⟩) (l.length + 1 + 1 + 1 + 1 + 1) cp))) (Q.and w.heap.size) K (es) ops w' x.2 := ih (Q := Q.and w.heap.size) h1.out (by first | omega | (simp; omega)) (CM.kids (Q := Q.and w.heap.size) h1.out hka.out hc1.out) (by first | exact hp_x.out | simpa using hp_x.out)
 have p4 := CM.cell (Q := Q.and w.heap.size) h1.out (Or.inr rfl) hc1.out P4.out
 obtain ⟨a0, a1, a2, a3, a4⟩ := CM.node (Q := Q.and w.heap.size) h1.out (Or.inl hFg.out) hc1.out Aa.out
 go_upto_region 3 with (first | (go_at_call 26; refine HO.mono ?_; clear HO; rintro en wk ⟨rfl, hwk⟩; obtain rfl := hwk.symm) | (go_at_call 36; refine HC.mono ?_; clear HC; rintro en w2 ⟨rfl, hg⟩))
 obtain ⟨K2, h2, hc2, hm2⟩ := CS.roll hg hc1 hm1
 clear p4 a0 a1 a2 a3 a4
 have HC := h2.out.ge0.Var hp_y.out
 go_upto_region 4 with (go_at_call 51; refine HC.mono ?_; clear HC; rintro en w3 ⟨rfl, hg⟩)
 obtain ⟨K3, h3, hc3, hm3⟩ := CS.roll (CM.graph h2.out hg) hc2 hm2
 have HC := h3.out.ge0.Put hp_q.out
 go_upto_region 5 with (go_at_call 63; refine HC.mono ?_; clear HC; rintro en w4 ⟨rfl, hg⟩)
 obtain ⟨K4, h4, hc4, hm4⟩ := CS.roll (CM.graph h3.out hg) hc3 hm3
 have HC : Calls Try.prog 53 #[.pointer (some ⟨Q.c, 0, none⟩), .int .i64 x.1, .int .i64 q.1, .int .i64 a.pos] (w4) fun en w' => en = .returned (.tuple #[]) ∧ CS (w4) (Q.and w.heap.size) K4 (es) ops w' e1 := Same_ck (Q := Q.and w.heap.size) a.pos h4.out hp_e1.out
 have p4 := CM.cell (Q := Q.and w.heap.size) h1.out (Or.inr rfl) hc4.out P4.out
 have a1 := CM.cell (Q := Q.and w.heap.size) h1.out (Or.inl hFg.out) hc4.out Aa.out.2.1
 go_upto_region 6 with (go_at_call 53; refine HC.mono ?_; clear HC; rintro en w5 ⟨rfl, hg⟩)
 obtain ⟨K5, h5, hc5, hm5⟩ := CS.roll hg hc4 hm4
 clear p4 a1
 have HC : Calls Try.prog 36 #[.pointer (some ⟨Q.c, 0, none⟩), nodeV b vb, .int .i64 row] (w5) fun en w' => en = .returned (.int .i64 t.1) ∧ CS (w5) (Q.and w.heap.size) K5 (es) ops w' t.2 := ih (Q := Q.and w.heap.size) h5.out (by first | omega | (simp; omega)) (CM.kids (Q := Q.and w.heap.size) h1.out hkb.out hc5.out) (by first | exact hp_t.out | simpa using hp_t.out)
 have p4 := CM.cell (Q := Q.and w.heap.size) h1.out (Or.inr rfl) hc5.out P4.out
 obtain ⟨b0, b1, b2, b3, b4⟩ := CM.node (Q := Q.and w.heap.size) h1.out (Or.inl hFg.out) hc5.out Ab.out
 go_upto_region 7 with (go_at_call 36; refine HC.mono ?_; clear HC; rintro en w6 ⟨rfl, hg⟩)
 obtain ⟨K6, h6, hc6, hm6⟩ := CS.roll hg hc5 hm5
 clear p4 b0 b1 b2 b3 b4
 have HC : Calls Try.prog 31 #[.pointer (some ⟨Q.c, 0, none⟩), .agg #[str c.name, .int .i64 y.1, .bool false, .map none, .map none, .bool false]] (w6) fun en w' => en = .returned (.tuple #[]) ∧ CS (w6) (Q.and w.heap.size) K6 (es ++ [(plain c.name y.1, .map none, .map none)]) ops w' t.2 := With_any (Q := Q.and w.heap.size) h6.out (by first | omega | (simp; omega)) NamOK.plain
 have p4 := CM.cell (Q := Q.and w.heap.size) h1.out (Or.inr rfl) hc6.out P4.out
 have c2 := CM.cell (Q := Q.and w.heap.size) h1.out (Or.inl hFg.out) hc6.out Ac.out.2.2.1
 go_upto_region 8 with (go_at_call 31; refine HC.mono ?_; clear HC; rintro en w7 ⟨rfl, hg⟩)
 obtain ⟨K7, h7, hc7, hm7⟩ := CS.roll hg hc6 hm6
 clear p4 c2
 have HC : Calls Try.prog 31 #[.pointer (some ⟨Q.c, 0, none⟩), .agg #[str d.name, .int .i64 q.1, .bool false, .map none, .map none, .bool false]] (w7) fun en w' => en = .returned (.tuple #[]) ∧ CS (w7) (Q.and w.heap.size) K7 ((es ++ [(plain c.name y.1, .map none, .map none)]) ++ [(plain d.name q.1, .map none, .map none)]) ops w' t.2 := With_any (Q := Q.and w.heap.size) h7.out (by first | omega | (simp; omega)) NamOK.plain
 have p4 := CM.cell (Q := Q.and w.heap.size) h1.out (Or.inr rfl) hc7.out P4.out
 have d2 := CM.cell (Q := Q.and w.heap.size) h1.out (Or.inl hFg.out) hc7.out Ad.out.2.2.1
 go_upto_region 9 with (go_at_call 31; refine HC.mono ?_; clear HC; rintro en w8 ⟨rfl, hg⟩)
 obtain ⟨K8, h8, hc8, hm8⟩ := CS.roll hg hc7 hm7
 clear p4 d2
 have HC : Calls Try.prog 36 #[.pointer (some ⟨Q.c, 0, none⟩), nodeV z vz, .int .i64 row] (w8) fun en w' => en = .returned (.int .i64 u.1) ∧ CS (w8) (Q.and w.heap.size) K8 ((es ++ [(plain c.name y.1, .map none, .map none)]) ++ [(plain d.name q.1, .map none, .map none)]) ops w' u.2 := ih (Q := Q.and w.heap.size) h8.out (by first | omega | (simp; omega)) (CM.kids (Q := Q.and w.heap.size) h1.out hkz.out hc8.out) (by first | exact hp_u.out | simpa using hp_u.out)
 have p4 := CM.cell (Q := Q.and w.heap.size) h1.out (Or.inr rfl) hc8.out P4.out
 obtain ⟨z0, z1, z2, z3, z4⟩ := CM.node (Q := Q.and w.heap.size) h1.out (Or.inl hFg.out) hc8.out Az.out
 go_upto_region 10 with (go_at_call 36; refine HC.mono ?_; clear HC; rintro en w9 ⟨rfl, hg⟩)
 obtain ⟨K9, h9, hc9, hm9⟩ := CS.roll hg hc8 hm8
 clear p4 z0 z1 z2 z3 z4
 have HC : Calls Try.prog 52 #[.pointer (some ⟨Q.c, 0, none⟩), .int .i64 2] (w9) fun en w' => en = .returned (.tuple #[]) ∧ CS (w9) (Q.and w.heap.size) K9 es ops w' u.2 := Out_any (Q := Q.and w.heap.size) (es := es) (xs := [(plain c.name y.1, .map none, .map none), (plain d.name q.1, .map none, .map none)]) (by have h0 := h9.out; rw [List.append_assoc] at h0; exact h0) (by simp; omega) (by simp)
 go_upto_region 11 with (go_at_call 52; refine HC.mono ?_; clear HC; rintro en w10 ⟨rfl, hg⟩)
 obtain ⟨K10, h10, hc10, hm10⟩ := CS.roll hg hc9 hm9
 have HC : Calls Try.prog 53 #[.pointer (some ⟨Q.c, 0, none⟩), .int .i64 u.1, .int .i64 t.1, .int .i64 z.pos] (w10) fun en w' => en = .returned (.tuple #[]) ∧ CS (w10) (Q.and w.heap.size) K10 (es) ops w' e3 := Same_ck (Q := Q.and w.heap.size) z.pos h10.out hp_e3.out
 have p4 := CM.cell (Q := Q.and w.heap.size) h1.out (Or.inr rfl) hc10.out P4.out
 have z1 := CM.cell (Q := Q.and w.heap.size) h1.out (Or.inl hFg.out) hc10.out Az.out.2.1
 go_wp2_with (go_at_call 53; refine HC.mono ?_; clear HC; rintro en w11 ⟨rfl, hg⟩)
 go_ret
 exact ⟨rfl, CS.pre hq.out (CS.back (CS.after hc10.out hm10.out hg))⟩
end
end Go.Proofs.Ytejciampbnfbhaa

namespace Go.Proofs.Ytejciampbnfbhaa
open Go.RowKit Ie
section
variable {w : World} {Q : Cc} {K : Ck} {es : Env} {ops : List Opr} {e e' : E} {T : Sy.Tr} {v : Value} {row m : Int}
theorem Expr_op {f k : Nat} (ih : InfOK f ops k) {a b : Sy.Tr} {l : List Sy.Tr} (h : CM w Q K es ops e) (hl : es.length + 2 * (k + 1) < 1000000) (hv : Kids w Q.F v T.kids) (hk : T.kind = 18) (hks : T.kids = a :: b :: l) (hp : ((exprE f ops k (es.map (·.1)) e a row).bind fun x => (x.2.put 1 (-1) (-1) 0).bind fun i => (samE f i.2 x.1 i.1).bind fun e => (exprE f ops k (es.map (·.1)) e b row).bind fun y => (y.2.put 1 (-1) (-1) 0).bind fun j => (samE f j.2 y.1 j.1).bind fun e =>
   if T.name = [60] ∨ T.name = [61, 61] then e.put 2 (-1) (-1) 0 else e.put 1 (-1) (-1) 0) = some (m, e')) :
  Calls Try.prog 36 #[.pointer (some ⟨Q.c, 0, none⟩), nodeV T v, .int .i64 row] w fun en w' => en = .returned (.int .i64 m) ∧ CS w Q K es ops w' e' := by
 obtain ⟨x, hp_x, g0⟩ := Option.bind_eq_some_iff.1 hp
 obtain ⟨i, hp_i, g1⟩ := Option.bind_eq_some_iff.1 g0
 obtain ⟨e1, hp_e1, g2⟩ := Option.bind_eq_some_iff.1 g1
 obtain ⟨y, hp_y, g3⟩ := Option.bind_eq_some_iff.1 g2
 obtain ⟨j, hp_j, g4⟩ := Option.bind_eq_some_iff.1 g3
 obtain ⟨e2, hp_e2, hp_z⟩ := Option.bind_eq_some_iff.1 g4
 clear g0 g1 g2 g3 g4 hp
 rw [hks] at hv
 obtain ⟨g, cp, hvv, hFg, hn⟩ := hv.cons (by simp)
 simp only [List.length_cons] at hvv
 subst hvv
 have j0 : (0 : Int) < (l.length : Int) + 1 + 1 := by omega
 have j1 : (1 : Int) < (l.length : Int) + 1 + 1 := by omega
 obtain ⟨va, Aa, hka⟩ := hn 0 a rfl
 obtain ⟨vb, Ab, hkb⟩ := hn 1 b rfl
 have hb := World.alloc_heap_new w (nodeB T (.slice (some ⟨g, 0, none⟩) (l.length + 1 + 1) cp))
 have hq := hid (al_ch w (nodeB T (.slice (some ⟨g, 0, none⟩) (l.length + 1 + 1) cp)))
 have h1 := hid (h.box (T := T) (v := .slice (some ⟨g, 0, none⟩) (l.length + 1 + 1) cp))
 obtain ⟨p0, p1, p2, -, p4⟩ := node_cells hb
 rw [hk] at p0
 have P2 := hid p2
 have P4 := hid p4
 have c0 := h1.out.c0
 have HO := h1.out.ok0
 replace Aa := hid (Aa.of_heap (hq.out.same g Aa.lt (fun h => h)))
 replace hka := hid (Kids.and (n := w.heap.size) (hka.quiet hq.out))
 replace Ab := hid (Ab.of_heap (hq.out.same g Ab.lt (fun h => h)))
 replace hkb := hid (Kids.and (n := w.heap.size) (hkb.quiet hq.out))
 replace hFg := hid hFg
 replace hp_x := hid hp_x
 replace hp_i := hid hp_i
 replace hp_e1 := hid hp_e1
 replace hp_y := hid hp_y
 replace hp_j := hid hp_j
 replace hp_e2 := hid hp_e2
 replace hp_z := hid hp_z
 clear hb hk hks h hv hn p1 p2 p4
 go_enter Try.func36, Try.ntmps36
 go_upto_region 68 with (go_at_call 26; refine HO.mono ?_; clear HO; rintro en wk ⟨rfl, hwk⟩; obtain rfl := hwk.symm)
 go_loopg [26] 3 (fun q v26 wr => ∃ eo, Hid (CS (w.alloc (nodeB T (.slice (some ⟨g, 0, none⟩) (l.length + 1 + 1) cp))) (Q.and w.heap.size) K es ops wr eo) ∧ ((q = 3 ∧ v26 = .int .i64 0 ∧ eo = e) ∨ (q = 2 ∧ v26 = .int .i64 1 ∧ eo = e1) ∨ (q = 1 ∧ v26 = .int .i64 2 ∧ eo = e2)))
 case atStart => exact ⟨e, hid (CS.refl h1.out), .inl ⟨rfl, rfl, rfl⟩⟩
 case round =>
  obtain ⟨eo, hs, hcase⟩ := hrel
  clear p0 c0
  rcases hcase with ⟨rfl, rfl, rfl⟩ | ⟨rfl, rfl, rfl⟩ | ⟨rfl, rfl, rfl⟩
  ·skip
   obtain ⟨K2, h2, hc2, hm2⟩ := hs.out; have hc := hid hc2; have p4 := CM.cell (Q := Q.and w.heap.size) h1.out (Or.inr rfl) hc2 P4.out; obtain ⟨a0, a1, a2, a3, a4⟩ := CM.node (Q := Q.and w.heap.size) h1.out (Or.inl hFg.out) hc.out Aa.out; have HC : Calls Try.prog 36 #[.pointer (some ⟨Q.c, 0, none⟩), nodeV a va, .int .i64 row] wr fun en w' => en = .returned (.int .i64 x.1) ∧ CS wr (Q.and w.heap.size) K2 es ops w' x.2 := ih (Q := Q.and w.heap.size) h2 (by omega) (CM.kids (Q := Q.and w.heap.size) h1.out hka.out hc2) hp_x.out; replace h2 := hid h2; replace hc2 := hid hc2; replace hm2 := hid hm2
   go_upto_region 71 with (go_at_call 36; refine HC.mono ?_; clear HC; rintro en w3 ⟨rfl, hg⟩)
   obtain ⟨K3, h3, hc3, hm3⟩ := hg; have HC := h3.ge0.Put hp_i.out; have p4 := CM.cell (Q := Q.and w.heap.size) h2.out (Or.inr rfl) hc3 p4; have a1 := CM.cell (Q := Q.and w.heap.size) h2.out (Or.inl hFg.out) hc3 a1; clear a0 a2 a3 a4; replace h3 := hid h3; replace hc3 := hid hc3; replace hm3 := hid hm3
   go_upto_region 72 with (go_at_call 63; refine HC.mono ?_; clear HC; rintro en w4 ⟨rfl, hg⟩)
   obtain ⟨K4, h4, hc4, hm4⟩ := CM.graph h3.out hg; clear hg; have p4 := CM.cell (Q := Q.and w.heap.size) h3.out (Or.inr rfl) hc4 p4; have a1 := CM.cell (Q := Q.and w.heap.size) h3.out (Or.inl hFg.out) hc4 a1; have HC : Calls Try.prog 53 #[.pointer (some ⟨Q.c, 0, none⟩), .int .i64 x.1, .int .i64 i.1, .int .i64 a.pos] w4 fun en w' => en = .returned (.tuple #[]) ∧ CS w4 (Q.and w.heap.size) K4 es ops w' e1 := Same_ck (Q := Q.and w.heap.size) a.pos h4 hp_e1.out; replace h4 := hid h4; replace hc4 := hid hc4; replace hm4 := hid hm4
   go_wp2_with (go_at_call 53; refine HC.mono ?_; clear HC; rintro en w5 ⟨rfl, hg⟩)
   have hfin := hid (CS.after hc2.out hm2.out (CS.after hc3.out hm3.out (CS.after hc4.out hm4.out hg)))
   go_roundg 2
   case measure => omega
   case rel => exact ⟨_, hfin, .inr (.inl ⟨rfl, rfl, rfl⟩)⟩
  ·skip
   obtain ⟨K2, h2, hc2, hm2⟩ := hs.out; have hc := hid hc2; have p4 := CM.cell (Q := Q.and w.heap.size) h1.out (Or.inr rfl) hc2 P4.out; obtain ⟨b0, b1, b2, b3, b4⟩ := CM.node (Q := Q.and w.heap.size) h1.out (Or.inl hFg.out) hc.out Ab.out; have HC : Calls Try.prog 36 #[.pointer (some ⟨Q.c, 0, none⟩), nodeV b vb, .int .i64 row] wr fun en w' => en = .returned (.int .i64 y.1) ∧ CS wr (Q.and w.heap.size) K2 es ops w' y.2 := ih (Q := Q.and w.heap.size) h2 (by omega) (CM.kids (Q := Q.and w.heap.size) h1.out hkb.out hc2) hp_y.out; replace h2 := hid h2; replace hc2 := hid hc2; replace hm2 := hid hm2
   go_upto_region 71 with (go_at_call 36; refine HC.mono ?_; clear HC; rintro en w3 ⟨rfl, hg⟩)
   obtain ⟨K3, h3, hc3, hm3⟩ := hg; have HC := h3.ge0.Put hp_j.out; have p4 := CM.cell (Q := Q.and w.heap.size) h2.out (Or.inr rfl) hc3 p4; have b1 := CM.cell (Q := Q.and w.heap.size) h2.out (Or.inl hFg.out) hc3 b1; clear b0 b2 b3 b4; replace h3 := hid h3; replace hc3 := hid hc3; replace hm3 := hid hm3
   go_upto_region 72 with (go_at_call 63; refine HC.mono ?_; clear HC; rintro en w4 ⟨rfl, hg⟩)
   obtain ⟨K4, h4, hc4, hm4⟩ := CM.graph h3.out hg; clear hg; have p4 := CM.cell (Q := Q.and w.heap.size) h3.out (Or.inr rfl) hc4 p4; have b1 := CM.cell (Q := Q.and w.heap.size) h3.out (Or.inl hFg.out) hc4 b1; have HC : Calls Try.prog 53 #[.pointer (some ⟨Q.c, 0, none⟩), .int .i64 y.1, .int .i64 j.1, .int .i64 b.pos] w4 fun en w' => en = .returned (.tuple #[]) ∧ CS w4 (Q.and w.heap.size) K4 es ops w' e2 := Same_ck (Q := Q.and w.heap.size) b.pos h4 hp_e2.out; replace h4 := hid h4; replace hc4 := hid hc4; replace hm4 := hid hm4
   go_wp2_with (go_at_call 53; refine HC.mono ?_; clear HC; rintro en w5 ⟨rfl, hg⟩)
   have hfin := hid (CS.after hc2.out hm2.out (CS.after hc3.out hm3.out (CS.after hc4.out hm4.out hg)))
   go_roundg 1
   case measure => omega
   case rel => exact ⟨_, hfin, .inr (.inr ⟨rfl, rfl, rfl⟩)⟩
  ·obtain ⟨K2, h2, hc2, hm2⟩ := hs.out
   have p2 := CM.cell (Q := Q.and w.heap.size) h1.out (Or.inr rfl) hc2 P2.out; replace hc2 := hid hc2; replace hm2 := hid hm2
   by_cases n1 : T.name = [60]
   ·have hz := hp_z.out
    rw [if_pos (.inl n1)] at hz; have HC := h2.ge0.Put hz; replace h2 := hid h2; rw [n1] at p2; clear hz n1
    go_wp2_with (go_at_call 63; refine HC.mono ?_; clear HC; rintro en w9 ⟨rfl, hg⟩)
    go_ret
    exact ⟨rfl, CS.pre hq.out (CS.back (CS.after hc2.out hm2.out (CM.graph h2.out hg)))⟩
   ·by_cases n2 : T.name = [61, 61]
    ·have hz := hp_z.out
     rw [if_pos (.inr n2)] at hz; have HC := h2.ge0.Put hz; replace h2 := hid h2; rw [n2] at p2; clear hz n1 n2
     go_wp2_with (go_at_call 63; refine HC.mono ?_; clear HC; rintro en w9 ⟨rfl, hg⟩)
     go_ret
     exact ⟨rfl, CS.pre hq.out (CS.back (CS.after hc2.out hm2.out (CM.graph h2.out hg)))⟩
    ·have hz := hp_z.out
     rw [if_neg (by simp [n1, n2])] at hz; have HC := h2.ge0.Put hz; replace h2 := hid h2; have n3 : (T.name == [60]) = false := by simpa using n1
     have n4 : (T.name == [61, 61]) = false := by simpa using n2
     clear hz
     go_wp2_with (go_at_call 63; refine HC.mono ?_; clear HC; rintro en w9 ⟨rfl, hg⟩)
     go_ret
     exact ⟨rfl, CS.pre hq.out (CS.back (CS.after hc2.out hm2.out (CM.graph h2.out hg)))⟩
end
end Go.Proofs.Ytejciampbnfbhaa

namespace Go.Proofs.Ytejciampbnfbhaa
open Go.RowKit Ie
section
variable {w : World} {Q : Cc} {K : Ck} {es : Env} {ops : List Opr} {e e' : E} {T : Sy.Tr} {v : Value} {row m : Int}
theorem Bound_zero {f k : Nat} (ih : InfOK f ops k) {a : Sy.Tr} {l : List Sy.Tr} (h : CM w Q K es ops e) (hl : es.length + 2 * (k + 1) < 1000000) (hv : Kids w Q.F v T.kids) (hnum : T.num = 0) (hks : T.kids = a :: l) (hp : ((e.opn).bind fun r => exprE f ops k (es.map (·.1)) r.2 a r.1) = some (m, e')) :
  Calls Try.prog 28 #[.pointer (some ⟨Q.c, 0, none⟩), nodeV T v] w fun en w' => en = .returned (.int .i64 m) ∧ CS w Q K es ops w' e' := by
 obtain ⟨r, hp_r, hp_x⟩ := Option.bind_eq_some_iff.1 hp
 rw [hks] at hv
 obtain ⟨g, cp, hvv, hFg, hn⟩ := hv.cons (by simp)
 simp only [List.length_cons] at hvv
 subst hvv
 have j0 : (0 : Int) < (l.length : Int) + 1 := by omega
 obtain ⟨va, Aa, hka⟩ := hn 0 a rfl
 have hb := World.alloc_heap_new w (nodeB T (.slice (some ⟨g, 0, none⟩) (l.length + 1) cp))
 have hq := hid (al_ch w (nodeB T (.slice (some ⟨g, 0, none⟩) (l.length + 1) cp)))
 have h1 := hid (h.box (T := T) (v := .slice (some ⟨g, 0, none⟩) (l.length + 1) cp))
 obtain ⟨p0, p1, p2, p3, p4⟩ := node_cells hb
 have P3 := hid p3
 have P0 := hid p0
 have P1 := hid p1
 have P2 := hid p2
 have P4 := hid p4
 have c0 := h1.out.c0
 have HO := h1.out.ok0
 replace Aa := hid (Aa.of_heap (hq.out.same g Aa.lt (fun h => h)))
 replace hka := hid (Kids.and (n := w.heap.size) (hka.quiet hq.out))
 replace hFg := hid hFg
 replace hp_r := hid hp_r
 replace hp_x := hid hp_x
 replace hnum := hid hnum
 clear hb hks hp h hv hn p1 p2 p3 p4
 have hc1 : Hid (Ch (K.own (Q.and w.heap.size)) (w.alloc (nodeB T (.slice (some ⟨g, 0, none⟩) (l.length + 1) cp))) (w.alloc (nodeB T (.slice (some ⟨g, 0, none⟩) (l.length + 1) cp)))) := hid (Ch.refl _ _)
 have hm1 : Hid (More (w.alloc (nodeB T (.slice (some ⟨g, 0, none⟩) (l.length + 1) cp))) (K.own (Q.and w.heap.size)) (K.own (Q.and w.heap.size))) := hid fun _ h => .inl h
 go_enter Try.func28, Try.ntmps28
 have HC := h1.out.ge0.Open hp_r.out
 go_upto_region 2 with (first | (go_at_call 26; refine HO.mono ?_; clear HO; rintro en wk ⟨rfl, hwk⟩; obtain rfl := hwk.symm) | (go_at_call 50; refine HC.mono ?_; clear HC; rintro en w2 ⟨rfl, hg⟩))
 obtain ⟨K2, h2, hc2, hm2⟩ := CS.roll (CM.graph h1.out hg) hc1 hm1
 have HC : Calls Try.prog 36 #[.pointer (some ⟨Q.c, 0, none⟩), nodeV a va, .int .i64 r.1] (w2) fun en w' => en = .returned (.int .i64 m) ∧ CS (w2) (Q.and w.heap.size) K2 (es) ops w' e' := ih (Q := Q.and w.heap.size) h2.out (by first | omega | (simp; omega)) (CM.kids (Q := Q.and w.heap.size) h1.out hka.out hc2.out) (by first | exact hp_x.out | simpa using hp_x.out)
 have p3 := CM.cell (Q := Q.and w.heap.size) h1.out (Or.inr rfl) hc2.out P3.out
 rw [hnum.out] at p3
 have p4 := CM.cell (Q := Q.and w.heap.size) h1.out (Or.inr rfl) hc2.out P4.out
 obtain ⟨a0, a1, a2, a3, a4⟩ := CM.node (Q := Q.and w.heap.size) h1.out (Or.inl hFg.out) hc2.out Aa.out
 go_wp2_with (go_at_call 36; refine HC.mono ?_; clear HC; rintro en w3 ⟨rfl, hg⟩)
 go_ret
 exact ⟨rfl, CS.pre hq.out (CS.back (CS.after hc2.out hm2.out hg))⟩
theorem Bound_rec {f k : Nat} (ih : InfOK f ops k) {a : Sy.Tr} {l : List Sy.Tr} (h : CM w Q K es ops e) (hl : es.length + 2 * (k + 1) < 1000000) (hv : Kids w Q.F v T.kids) (hnum : (T.num == 0) = false) (hks : T.kids = a :: l) (hp : ((e.opn).bind fun r => (r.2.var).bind fun v => (exprE f ops k (es.map (·.1) ++ [plain T.name v.1]) v.2 a r.1).bind fun p => (samE f p.2 v.1 p.1).map fun e => (p.1, e)) = some (m, e')) :
  Calls Try.prog 28 #[.pointer (some ⟨Q.c, 0, none⟩), nodeV T v] w fun en w' => en = .returned (.int .i64 m) ∧ CS w Q K es ops w' e' := by
 obtain ⟨r, hp_r, g0⟩ := Option.bind_eq_some_iff.1 hp
 obtain ⟨u, hp_u, g1⟩ := Option.bind_eq_some_iff.1 g0
 obtain ⟨x, hp_x, g2⟩ := Option.bind_eq_some_iff.1 g1
 obtain ⟨e3, hp_e3, g9⟩ := Option.map_eq_some_iff.1 g2
 obtain ⟨rfl, rfl⟩ := Prod.mk.inj g9
 clear g0 g1 g2 g9
 rw [hks] at hv
 obtain ⟨g, cp, hvv, hFg, hn⟩ := hv.cons (by simp)
 simp only [List.length_cons] at hvv
 subst hvv
 have j0 : (0 : Int) < (l.length : Int) + 1 := by omega
 obtain ⟨va, Aa, hka⟩ := hn 0 a rfl
 have hb := World.alloc_heap_new w (nodeB T (.slice (some ⟨g, 0, none⟩) (l.length + 1) cp))
 have hq := hid (al_ch w (nodeB T (.slice (some ⟨g, 0, none⟩) (l.length + 1) cp)))
 have h1 := hid (h.box (T := T) (v := .slice (some ⟨g, 0, none⟩) (l.length + 1) cp))
 obtain ⟨p0, p1, p2, p3, p4⟩ := node_cells hb
 have P3 := hid p3
 have P0 := hid p0
 have P1 := hid p1
 have P2 := hid p2
 have P4 := hid p4
 have c0 := h1.out.c0
 have HO := h1.out.ok0
 replace Aa := hid (Aa.of_heap (hq.out.same g Aa.lt (fun h => h)))
 replace hka := hid (Kids.and (n := w.heap.size) (hka.quiet hq.out))
 replace hFg := hid hFg
 replace hp_r := hid hp_r
 replace hp_u := hid hp_u
 replace hp_x := hid hp_x
 replace hp_e3 := hid hp_e3
 clear hb hks hp h hv hn p1 p2 p3 p4
 have hc1 : Hid (Ch (K.own (Q.and w.heap.size)) (w.alloc (nodeB T (.slice (some ⟨g, 0, none⟩) (l.length + 1) cp))) (w.alloc (nodeB T (.slice (some ⟨g, 0, none⟩) (l.length + 1) cp)))) := hid (Ch.refl _ _)
 have hm1 : Hid (More (w.alloc (nodeB T (.slice (some ⟨g, 0, none⟩) (l.length + 1) cp))) (K.own (Q.and w.heap.size)) (K.own (Q.and w.heap.size))) := hid fun _ h => .inl h
 go_enter Try.func28, Try.ntmps28
 have HC := h1.out.ge0.Open hp_r.out
 go_upto_region 2 with (first | (go_at_call 26; refine HO.mono ?_; clear HO; rintro en wk ⟨rfl, hwk⟩; obtain rfl := hwk.symm) | (go_at_call 50; refine HC.mono ?_; clear HC; rintro en w2 ⟨rfl, hg⟩))
 obtain ⟨K2, h2, hc2, hm2⟩ := CS.roll (CM.graph h1.out hg) hc1 hm1
 have HC := h2.out.ge0.Var hp_u.out
 have p3 := CM.cell (Q := Q.and w.heap.size) h1.out (Or.inr rfl) hc2.out P3.out
 have c0 := h2.out.c0
 go_upto_region 5 with (go_at_call 51; refine HC.mono ?_; clear HC; rintro en w3 ⟨rfl, hg⟩)
 obtain ⟨K3, h3, hc3, hm3⟩ := CS.roll (CM.graph h2.out hg) hc2 hm2
 clear p3 c0
 have HC : Calls Try.prog 31 #[.pointer (some ⟨Q.c, 0, none⟩), .agg #[str T.name, .int .i64 u.1, .bool false, .map none, .map none, .bool false]] (w3) fun en w' => en = .returned (.tuple #[]) ∧ CS (w3) (Q.and w.heap.size) K3 (es ++ [(plain T.name u.1, .map none, .map none)]) ops w' u.2 := With_any (Q := Q.and w.heap.size) h3.out (by first | omega | (simp; omega)) NamOK.plain
 have p2 := CM.cell (Q := Q.and w.heap.size) h1.out (Or.inr rfl) hc3.out P2.out
 go_upto_region 6 with (go_at_call 31; refine HC.mono ?_; clear HC; rintro en w4 ⟨rfl, hg⟩)
 obtain ⟨K4, h4, hc4, hm4⟩ := CS.roll hg hc3 hm3
 clear p2
 have HC : Calls Try.prog 36 #[.pointer (some ⟨Q.c, 0, none⟩), nodeV a va, .int .i64 r.1] (w4) fun en w' => en = .returned (.int .i64 x.1) ∧ CS (w4) (Q.and w.heap.size) K4 (es ++ [(plain T.name u.1, .map none, .map none)]) ops w' x.2 := ih (Q := Q.and w.heap.size) h4.out (by first | omega | (simp; omega)) (CM.kids (Q := Q.and w.heap.size) h1.out hka.out hc4.out) (by first | exact hp_x.out | simpa using hp_x.out)
 have p4 := CM.cell (Q := Q.and w.heap.size) h1.out (Or.inr rfl) hc4.out P4.out
 obtain ⟨a0, a1, a2, a3, a4⟩ := CM.node (Q := Q.and w.heap.size) h1.out (Or.inl hFg.out) hc4.out Aa.out
 go_upto_region 7 with (go_at_call 36; refine HC.mono ?_; clear HC; rintro en w5 ⟨rfl, hg⟩)
 obtain ⟨K5, h5, hc5, hm5⟩ := CS.roll hg hc4 hm4
 clear p4 a0 a1 a2 a3 a4
 have HC : Calls Try.prog 52 #[.pointer (some ⟨Q.c, 0, none⟩), .int .i64 1] (w5) fun en w' => en = .returned (.tuple #[]) ∧ CS (w5) (Q.and w.heap.size) K5 es ops w' x.2 := Out_any (Q := Q.and w.heap.size) (es := es) (xs := [(plain T.name u.1, .map none, .map none)]) h5.out (by simp; omega) (by simp)
 go_upto_region 8 with (go_at_call 52; refine HC.mono ?_; clear HC; rintro en w6 ⟨rfl, hg⟩)
 obtain ⟨K6, h6, hc6, hm6⟩ := CS.roll hg hc5 hm5
 have HC : Calls Try.prog 53 #[.pointer (some ⟨Q.c, 0, none⟩), .int .i64 u.1, .int .i64 x.1, .int .i64 T.pos] (w6) fun en w' => en = .returned (.tuple #[]) ∧ CS (w6) (Q.and w.heap.size) K6 (es) ops w' e3 := Same_ck (Q := Q.and w.heap.size) T.pos h6.out hp_e3.out
 have p1 := CM.cell (Q := Q.and w.heap.size) h1.out (Or.inr rfl) hc6.out P1.out
 go_wp2_with (go_at_call 53; refine HC.mono ?_; clear HC; rintro en w7 ⟨rfl, hg⟩)
 go_ret
 exact ⟨rfl, CS.pre hq.out (CS.back (CS.after hc6.out hm6.out hg))⟩
end
end Go.Proofs.Ytejciampbnfbhaa

namespace Go.Proofs.Ytejciampbnfbhaa
open Go.RowKit Ie
section
variable {w : World} {Q : Cc} {K : Ck} {es : Env} {ops : List Opr} {e e' : E} {T : Sy.Tr} {v : Value} {m : Int}
theorem Bound_any {f k : Nat} (ih : InfOK f ops k) (h : CM w Q K es ops e) (hl : es.length + 2 * (k + 1) < 1000000) (hv : Kids w Q.F v T.kids) (hp : bound f (exprE f ops k) (es.map (·.1)) e T = some (m, e')) :
  Calls Try.prog 28 #[.pointer (some ⟨Q.c, 0, none⟩), nodeV T v] w fun en w' => en = .returned (.int .i64 m) ∧ CS w Q K es ops w' e' := by
 unfold bound at hp
 cases hks : T.kids with
 | nil =>
  rw [hks] at hp
  obtain ⟨r, -, h2⟩ := Option.bind_eq_some_iff.1 hp
  cases h2
 | cons a l =>
  rw [hks] at hp
  by_cases hn : T.num = 0
  ·simp only [hn, if_true] at hp
   exact Bound_zero ih h hl hv hn hks hp
  ·simp only [hn, if_false] at hp
   exact Bound_rec ih h hl hv (by simpa using hn) hks hp
end
end Go.Proofs.Ytejciampbnfbhaa

namespace Go.Proofs.Ytejciampbnfbhaa
open Go.RowKit Ie
section
variable {w1 w w' : World} {Q : Cc} {K1 K : Ck} {es1 es : Env} {ops : List Opr} {e1 e : E} {B : Nat} {x : En × Value × Value}
theorem CM.store {Q1 : Cc} (h1 : CM w1 Q1 K1 es1 ops e1) (hQ : Q1.b = Q.b ∧ Q1.c = Q.c ∧ Q1.ov = Q.ov) (h : CM w Q K es ops e) (hc : Ch (K1.own Q) w1 w) (hm : More w1 (K1.own Q) (K.own Q)) (hB : w1.heap.size ≤ B) (hb : w.heap[B]? = some (xnB x)) (hno : ¬ K.own Q B) (hs : Ch (fun k => k = B) w w') : CM w' Q K es ops e := by
 obtain ⟨b, c, ov, F⟩ := Q1
 obtain ⟨rfl, rfl, rfl⟩ := hQ
 have hk : ∀ k, k < w.heap.size → K.own Q k → w'.heap[k]? = w.heap[k]? := fun k hl ho => hs.same k hl (fun e => hno (e ▸ ho))
 have hcl := h.lt (.inr (.inl rfl))
 obtain ⟨d, g1, g2⟩ := h.ge
 refine ⟨(hk _ hcl (.inr (.inl rfl))).trans h.blk, ⟨d, g1, g2.apart (O := fun k => k = B) hs (fun k hk ho => hno (.inl (ho ▸ hk))) (fun i u k hu hk ho => (out_cells g2 hb (by decide) (fun h => hno (.inl h))).2 i u hu (ho ▸ hk))⟩, ownsRow_keep h.env (fun k hk2 => hk k (ownsRow_lt h.env hk2) (.inr (.inr hk2))), h.nc, h.ne, fun y hy => ?_, fun w3 h3 => ?_, fun k hk2 => ?_⟩
 ·have hy1 := h.nam y hy
  have hy2 : NamOK w (fun k => K.own Q k ∨ k = B) y := ⟨hy1.m1, hy1.m2, fun ha => by
   obtain ⟨t, r, e1, e2, s1, s2, o1, o2⟩ := hy1.gen ha
   have hne : ∀ {t : Nat} {S : List Int}, SM w t S → t ≠ B := fun s e => by
    obtain ⟨es, ck, hb2, _⟩ := s; rw [e, hb] at hb2; cases hb2
   exact ⟨t, r, e1, e2, s1, s2, fun h => h.elim o1 (hne s1), fun h => h.elim o2 (hne s2)⟩⟩
  exact hy2.ch (hs.mono (fun _ h => .inr h)) (fun _ h => .inl (.inl h))
 ·exact h1.ops w3 fun k hl hn => (h3 k (Nat.lt_of_lt_of_le (Nat.lt_of_lt_of_le hl hc.size) hs.size) (hm.not hn hl)).trans ((hs.same k (Nat.lt_of_lt_of_le hl hc.size) (fun e => by omega)).trans (hc.same k hl hn))
 ·obtain ⟨a, b⟩ := h.tf k hk2
  exact ⟨Nat.lt_of_lt_of_le a hs.size, b⟩
theorem CM.gen {t r : Nat} {y : En} (h : CM w Q K es ops e) (h1 : SM w' t y.tv) (h2 : SM w' r y.rv) (h3 : w.heap.size ≤ t) (h4 : w.heap.size ≤ r) : NamOK w' (K.own Q) (y, .map (some t), .map (some r)) :=
 ⟨⟨_, rfl⟩, ⟨_, rfl⟩, fun _ => ⟨t, r, rfl, rfl, h1, h2, fun ho => by have := h.lt ho; omega, fun ho => by have := h.lt ho; omega⟩⟩
end
end Go.Proofs.Ytejciampbnfbhaa
