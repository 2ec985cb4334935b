import Derived.Test.YtejciampbnfbhaaMJzG
import Derived.Test.YtejciampbnfbhaaMJp
import Derived.Test.YtejciampbnfbhaaMTyM
set_option linter.unusedVariables false
set_option linter.unusedSimpArgs false
set_option maxRecDepth 100000
set_option maxHeartbeats 1600000
namespace Go.Proofs.Ytejciampbnfbhaa
open Go.RowKit Ie
section
variable {w : World} {Q : Cc} {K : Ck} {es : Env} {ops : List Opr} {e e' : E} {T : Sy.Tr} {v : Value} {row m : Int}
theorem Let_rec {f k : Nat} (ih : InfOK f ops k) {a b : Sy.Tr} {l : List Sy.Tr} (h : CM w Q K es ops e) (hl : es.length + 2 * (k + 1) < 1000000) (hv : Kids w Q.F v T.kids) (hnum : T.num = 1) (hks : T.kids = a :: b :: l) (hp : ((bound f (exprE f ops k) (es.map (·.1)) e T).bind fun p => (bigE f p.2 p.1).bind fun _ => (general f p.2 (es.map (·.1)) T.name p.1).bind fun x => exprE f ops k (es.map (·.1) ++ [x]) p.2 b row) = some (m, e')) :
  Calls Try.prog 66 #[.pointer (some ⟨Q.c, 0, none⟩), nodeV T v, .int .i64 row] w fun en w' => en = .returned (.int .i64 m) ∧ CS w Q K es ops w' e' := by
 obtain ⟨p, hp_p, g0⟩ := Option.bind_eq_some_iff.1 hp
 obtain ⟨u, hp_u, g1⟩ := Option.bind_eq_some_iff.1 g0
 obtain ⟨x, hp_x, hp_q⟩ := Option.bind_eq_some_iff.1 g1
 clear g0 g1
 have hvT := hv
 rw [hks] at hv
 obtain ⟨g, cp, hvv, hFg, hn⟩ := hv.cons (by simp)
 simp only [List.length_cons] at hvv
 subst hvv
 have j0 : (0 : Int) < (l.length : Int) + 1 + 1 := by omega
 have j1 : (1 : Int) < (l.length : Int) + 1 + 1 := by omega
 obtain ⟨va, Aa, hka⟩ := hn 0 a rfl
 obtain ⟨vb, Ab, hkb⟩ := hn 1 b rfl
 have hb := World.alloc_heap_new w (nodeB T (.slice (some ⟨g, 0, none⟩) (l.length + 1 + 1) cp))
 have hq := hid (al_ch w (nodeB T (.slice (some ⟨g, 0, none⟩) (l.length + 1 + 1) cp)))
 have h1 := hid (h.box (T := T) (v := (.slice (some ⟨g, 0, none⟩) (l.length + 1 + 1) cp)))
 obtain ⟨p0, p1, p2, p3, p4⟩ := node_cells hb
 have P1 := hid p1
 have P2 := hid p2
 have P3 := hid p3
 have P4 := hid p4
 have P0 := hid p0
 have hz1 : (w.alloc (nodeB T (.slice (some ⟨g, 0, none⟩) (l.length + 1 + 1) cp))).heap.size = w.heap.size + 1 := by simp
 replace Aa := hid (Aa.of_heap (hq.out.same g Aa.lt (fun h => h)))
 replace Ab := hid (Ab.of_heap (hq.out.same g Ab.lt (fun h => h)))
 replace hka := hid (Kids.and (n := w.heap.size) (hka.quiet hq.out))
 replace hkb := hid (Kids.and (n := w.heap.size) (hkb.quiet hq.out))
 replace hvT := hid (Kids.and (n := w.heap.size) (hvT.quiet hq.out))
 replace hFg := hid hFg
 have hqx := al_ch (w.alloc (nodeB T (.slice (some ⟨g, 0, none⟩) (l.length + 1 + 1) cp))) (xnB (plain T.name 0, .map none, .map none))
 have h2 := hid ((h1.out.quiet hqx).and (n := (w.heap.size + 1)) (by simp) (fun ho => by have := h1.out.lt ho; omega))
 have hc2 := hid (hqx.mono (O1 := K.own ((Q.and w.heap.size).and (w.heap.size + 1))) (fun _ h => h.elim))
 have hm2 : Hid (More (w.alloc (nodeB T (.slice (some ⟨g, 0, none⟩) (l.length + 1 + 1) cp))) (K.own ((Q.and w.heap.size).and (w.heap.size + 1))) (K.own ((Q.and w.heap.size).and (w.heap.size + 1)))) := hid fun _ h => .inl h
 have hB2 := hid (World.alloc_heap_new (w.alloc (nodeB T (.slice (some ⟨g, 0, none⟩) (l.length + 1 + 1) cp))) (xnB (plain T.name 0, .map none, .map none)))
 rw [hz1] at hB2
 replace hp_p := hid hp_p
 replace hp_u := hid hp_u
 replace hp_x := hid hp_x
 replace hp_q := hid hp_q
 replace hnum := hid hnum
 clear hb hks hp h hv hn hqx p0 p1 p3 p4
 go_enter Try.func66, Try.ntmps66
 go_upto_region 2 with (fail)
 clear p2
 replace hz1 := hid hz1
 change Code.wp _ _ _ _ (World.alloc (w.alloc (nodeB T (.slice (some ⟨g, 0, none⟩) (l.length + 1 + 1) cp))) (xnB (plain T.name 0, .map none, .map none)))
 generalize World.alloc (w.alloc (nodeB T (.slice (some ⟨g, 0, none⟩) (l.length + 1 + 1) cp))) (xnB (plain T.name 0, .map none, .map none)) = w2 at *
 have HC : Calls Try.prog 28 #[.pointer (some ⟨Q.c, 0, none⟩), nodeV T (.slice (some ⟨g, 0, none⟩) (l.length + 1 + 1) cp)] w2 fun en w' => en = .returned (.int .i64 p.1) ∧ CS w2 ((Q.and w.heap.size).and (w.heap.size + 1)) K es ops w' p.2 := Bound_any (Q := (Q.and w.heap.size).and (w.heap.size + 1)) ih h2.out hl (Kids.and (n := (w.heap.size + 1)) (CM.kids (Q := Q.and w.heap.size) h1.out hvT.out hc2.out)) hp_p.out
 unfold nodeV at HC
 rw [hnum.out] at HC
 have p0 := CM.cell (Q := Q.and w.heap.size) h1.out (Or.inr rfl) hc2.out P0.out
 have p1 := CM.cell (Q := Q.and w.heap.size) h1.out (Or.inr rfl) hc2.out P1.out
 have p2 := CM.cell (Q := Q.and w.heap.size) h1.out (Or.inr rfl) hc2.out P2.out
 have p3 := CM.cell (Q := Q.and w.heap.size) h1.out (Or.inr rfl) hc2.out P3.out
 have p4 := CM.cell (Q := Q.and w.heap.size) h1.out (Or.inr rfl) hc2.out P4.out
 rw [hnum.out] at p3
 go_upto_region 4 with (go_at_call 28; refine HC.mono ?_; clear HC; rintro en w3 ⟨rfl, hg⟩)
 clear p0 p1 p2 p3 p4
 obtain ⟨K3, h3, hc3, hm3⟩ := hg
 have hB3 : Hid (w3.heap[(w.heap.size + 1)]? = some (xnB (plain T.name 0, .map none, .map none))) := hid ((CM.kept (Q := (Q.and w.heap.size).and (w.heap.size + 1)) h2.out (Or.inr rfl) hc3).trans hB2.out)
 replace hm3 := hid (hm2.out.two hm3 hc2.out.size)
 replace hc3 := hid (hc2.out.two hc3 hm2.out)
 replace h3 := hid h3
 have HC : Calls Try.prog 29 #[.pointer (some ⟨Q.c, 0, none⟩), .int .i64 p.1, .int .i64 T.pos] w3 fun en w' => en = .returned (.tuple #[]) ∧ Ch (fun _ => False) w3 w' := Big_ck (Q := (Q.and w.heap.size).and (w.heap.size + 1)) T.pos h3.out hp_u.out
 have p1 := CM.cell (Q := Q.and w.heap.size) h1.out (Or.inr rfl) hc3.out P1.out
 go_upto_region 5 with (go_at_call 29; refine HC.mono ?_; clear HC; rintro en w4 ⟨rfl, hqb⟩)
 clear p1
 obtain ⟨K4, h4, hc4, hm4⟩ := (CS.refl h3.out).quiet hqb
 have hB4 : Hid (w4.heap[(w.heap.size + 1)]? = some (xnB (plain T.name 0, .map none, .map none))) := hid ((CM.kept (Q := (Q.and w.heap.size).and (w.heap.size + 1)) h3.out (Or.inr rfl) hc4).trans hB3.out)
 replace hm4 := hid (hm3.out.two hm4 hc3.out.size)
 replace hc4 := hid (hc3.out.two hc4 hm3.out)
 replace h4 := hid h4
 have HC : Calls Try.prog 30 #[.pointer (some ⟨Q.c, 0, none⟩), str T.name, .int .i64 p.1] w4 fun en w' => ∃ t r, en = .returned (nmV (x, .map (some t), .map (some r))) ∧ SM w' t x.tv ∧ SM w' r x.rv ∧ w4.heap.size ≤ t ∧ w4.heap.size ≤ r ∧ x.all = true ∧ Ch (fun _ => False) w4 w' := General_any (Q := (Q.and w.heap.size).and (w.heap.size + 1)) h4.out (by omega) hp_x.out
 have p2 := CM.cell (Q := Q.and w.heap.size) h1.out (Or.inr rfl) hc4.out P2.out
 go_upto_region 11 with (go_at_call 30; refine HC.mono ?_; clear HC; rintro en wg ⟨ts, rs, rfl, s1, s2, z1, z2, -, hqg⟩; have hBg := (hqg.same _ (Array.getElem?_eq_some_iff.1 hB4.out).1 (fun h => h)).trans hB4.out; have yf : ∀ i, wg.frozen? ⟨(w.heap.size + 1), i, none⟩ = false := fun i => (by unfold World.frozen?; rw [hBg]; simp); obtain ⟨y0, y1, y2, y3, y4, y5⟩ := box_cells hBg)
 have hg := h4.out.quiet hqg
 have hcg := hc4.out.trans hqg (fun _ h => h.elim)
 have hBl := (Array.getElem?_eq_some_iff.1 hB4.out).1
 clear yf p2 y0 y1 y2 y3 y4 y5
 have hs5 := ((((((Ch.setCell (O := fun j => j = (w.heap.size + 1)) wg ⟨(w.heap.size + 1), 0, none⟩ (str x.name) rfl).set (a := ⟨(w.heap.size + 1), 1, none⟩) rfl (.int .i64 x.t)).set (a := ⟨(w.heap.size + 1), 2, none⟩) rfl (.bool x.all)).set (a := ⟨(w.heap.size + 1), 3, none⟩) rfl (.map (some ts))).set (a := ⟨(w.heap.size + 1), 4, none⟩) rfl (.map (some rs))).set (a := ⟨(w.heap.size + 1), 5, none⟩) rfl (.bool x.opn))
 have hB5 := (blk_set (i := 5) (v := .bool x.opn) (blk_set (i := 4) (v := .map (some rs)) (blk_set (i := 3) (v := .map (some ts)) (blk_set (i := 2) (v := .bool x.all) (blk_set (i := 1) (v := .int .i64 x.t) (blk_set (i := 0) (v := str x.name) hBg))))))
 have hno := (hg.tf (w.heap.size + 1) (Or.inr rfl)).2
 have h5 := CM.store (Q := (Q.and w.heap.size).and (w.heap.size + 1)) h1.out ⟨rfl, rfl, rfl⟩ hg hcg hm4.out (Nat.le_of_eq hz1.out) hBg hno hs5
 have hc5 := hcg.trans hs5 (fun i hi => Or.inr (by rw [hz1.out, hi]; exact Nat.le_refl _))
 generalize World.setCell (World.setCell (World.setCell (World.setCell (World.setCell (World.setCell wg _ _) _ _) _ _) _ _) _ _) _ _ = w5 at *
 replace hB5 : Hid (w5.heap[(w.heap.size + 1)]? = some (xnB (x, .map (some ts), .map (some rs)))) := hid (hB5.trans (by simp [plain]))
 replace h5 := hid h5
 replace hc5 := hid hc5
 have hm5 := hm4
 clear hno
 have hN := hid (CM.gen h4.out (s1.ch hs5 (by omega)) (s2.ch hs5 (by omega)) z1 z2)
 clear s1 s2 z1 z2 hqg hg hcg hBl hs5 hBg
 have HC : Calls Try.prog 31 #[.pointer (some ⟨Q.c, 0, none⟩), nmV (x, .map (some ts), .map (some rs))] w5 fun en w' => en = .returned (.tuple #[]) ∧ CS w5 ((Q.and w.heap.size).and (w.heap.size + 1)) K4 (es ++ [(x, .map (some ts), .map (some rs))]) ops w' p.2 := With_any (Q := (Q.and w.heap.size).and (w.heap.size + 1)) h5.out (by omega) hN.out
 obtain ⟨y0, y1, y2, y3, y4, y5⟩ := box_cells hB5.out
 go_upto_region 12 with (go_at_call 31; refine HC.mono ?_; clear HC; rintro en w6 ⟨rfl, hg⟩)
 clear y0 y1 y2 y3 y4 y5
 obtain ⟨K6, h6, hc6, hm6⟩ := CS.roll hg hc5 hm5
 have HC : Calls Try.prog 36 #[.pointer (some ⟨Q.c, 0, none⟩), nodeV b vb, .int .i64 row] w6 fun en w' => en = .returned (.int .i64 m) ∧ CS w6 ((Q.and w.heap.size).and (w.heap.size + 1)) K6 (es ++ [(x, .map (some ts), .map (some rs))]) ops w' e' := ih (Q := (Q.and w.heap.size).and (w.heap.size + 1)) h6.out (by simp; omega) (Kids.and (n := (w.heap.size + 1)) (CM.kids (Q := Q.and w.heap.size) h1.out hkb.out hc6.out)) (by simpa using hp_q.out)
 have p4 := CM.cell (Q := Q.and w.heap.size) h1.out (Or.inr rfl) hc6.out P4.out
 obtain ⟨b0, b1, b2, b3, b4⟩ := CM.node (Q := Q.and w.heap.size) h1.out (Or.inl hFg.out) hc6.out Ab.out
 go_upto_region 13 with (go_at_call 36; refine HC.mono ?_; clear HC; rintro en w7 ⟨rfl, hg⟩)
 clear p4 b0 b1 b2 b3 b4
 obtain ⟨K7, h7, hc7, hm7⟩ := CS.roll hg hc6 hm6
 have HC : Calls Try.prog 52 #[.pointer (some ⟨Q.c, 0, none⟩), .int .i64 1] w7 fun en w' => en = .returned (.tuple #[]) ∧ CS w7 ((Q.and w.heap.size).and (w.heap.size + 1)) K7 es ops w' e' := Out_any (Q := (Q.and w.heap.size).and (w.heap.size + 1)) (es := es) (xs := [(x, .map (some ts), .map (some rs))]) h7.out (by simp; omega) (by simp)
 go_wp2_with (go_at_call 52; refine HC.mono ?_; clear HC; rintro en w8 ⟨rfl, hg⟩)
 go_ret
 exact ⟨rfl, CS.pre hq.out (CS.back (CS.back (CS.after (Q := (Q.and w.heap.size).and (w.heap.size + 1)) hc7.out hm7.out hg)))⟩
theorem Let_val {f k : Nat} (ih : InfOK f ops k) {a b : Sy.Tr} {l : List Sy.Tr} (h : CM w Q K es ops e) (hl : es.length + 2 * (k + 1) < 1000000) (hv : Kids w Q.F v T.kids) (hnum : (T.num == 1) = false) (hval : value a.kind = true) (hks : T.kids = a :: b :: l) (hp : ((exprE f ops k (es.map (·.1)) e a row).bind fun p => (bigE f p.2 p.1).bind fun _ => (general f p.2 (es.map (·.1)) T.name p.1).bind fun x => exprE f ops k (es.map (·.1) ++ [x]) p.2 b row) = some (m, e')) :
  Calls Try.prog 66 #[.pointer (some ⟨Q.c, 0, none⟩), nodeV T v, .int .i64 row] w fun en w' => en = .returned (.int .i64 m) ∧ CS w Q K es ops w' e' := by
 obtain ⟨p, hp_p, g0⟩ := Option.bind_eq_some_iff.1 hp
 obtain ⟨u, hp_u, g1⟩ := Option.bind_eq_some_iff.1 g0
 obtain ⟨x, hp_x, hp_q⟩ := Option.bind_eq_some_iff.1 g1
 clear g0 g1
 have hvT := hv
 rw [hks] at hv
 obtain ⟨g, cp, hvv, hFg, hn⟩ := hv.cons (by simp)
 simp only [List.length_cons] at hvv
 subst hvv
 have j0 : (0 : Int) < (l.length : Int) + 1 + 1 := by omega
 have j1 : (1 : Int) < (l.length : Int) + 1 + 1 := by omega
 obtain ⟨va, Aa, hka⟩ := hn 0 a rfl
 obtain ⟨vb, Ab, hkb⟩ := hn 1 b rfl
 have hb := World.alloc_heap_new w (nodeB T (.slice (some ⟨g, 0, none⟩) (l.length + 1 + 1) cp))
 have hq := hid (al_ch w (nodeB T (.slice (some ⟨g, 0, none⟩) (l.length + 1 + 1) cp)))
 have h1 := hid (h.box (T := T) (v := (.slice (some ⟨g, 0, none⟩) (l.length + 1 + 1) cp)))
 obtain ⟨p0, p1, p2, p3, p4⟩ := node_cells hb
 have P1 := hid p1
 have P2 := hid p2
 have P3 := hid p3
 have P4 := hid p4
 have P0 := hid p0
 have hz1 : (w.alloc (nodeB T (.slice (some ⟨g, 0, none⟩) (l.length + 1 + 1) cp))).heap.size = w.heap.size + 1 := by simp
 replace Aa := hid (Aa.of_heap (hq.out.same g Aa.lt (fun h => h)))
 replace Ab := hid (Ab.of_heap (hq.out.same g Ab.lt (fun h => h)))
 replace hka := hid (Kids.and (n := w.heap.size) (hka.quiet hq.out))
 replace hkb := hid (Kids.and (n := w.heap.size) (hkb.quiet hq.out))
 replace hvT := hid (Kids.and (n := w.heap.size) (hvT.quiet hq.out))
 replace hFg := hid hFg
 have hqx := al_ch (w.alloc (nodeB T (.slice (some ⟨g, 0, none⟩) (l.length + 1 + 1) cp))) (xnB (plain T.name 0, .map none, .map none))
 have h2 := hid ((h1.out.quiet hqx).and (n := (w.heap.size + 1)) (by simp) (fun ho => by have := h1.out.lt ho; omega))
 have hc2 := hid (hqx.mono (O1 := K.own ((Q.and w.heap.size).and (w.heap.size + 1))) (fun _ h => h.elim))
 have hm2 : Hid (More (w.alloc (nodeB T (.slice (some ⟨g, 0, none⟩) (l.length + 1 + 1) cp))) (K.own ((Q.and w.heap.size).and (w.heap.size + 1))) (K.own ((Q.and w.heap.size).and (w.heap.size + 1)))) := hid fun _ h => .inl h
 have hB2 := hid (World.alloc_heap_new (w.alloc (nodeB T (.slice (some ⟨g, 0, none⟩) (l.length + 1 + 1) cp))) (xnB (plain T.name 0, .map none, .map none)))
 rw [hz1] at hB2
 replace hp_p := hid hp_p
 replace hp_u := hid hp_u
 replace hp_x := hid hp_x
 replace hp_q := hid hp_q
 replace hval := hid hval
 clear hb hks hp h hv hn hqx p0 p1 p3 p4
 go_enter Try.func66, Try.ntmps66
 go_upto_region 2 with (fail)
 clear p2
 replace hz1 := hid hz1
 change Code.wp _ _ _ _ (World.alloc (w.alloc (nodeB T (.slice (some ⟨g, 0, none⟩) (l.length + 1 + 1) cp))) (xnB (plain T.name 0, .map none, .map none)))
 generalize World.alloc (w.alloc (nodeB T (.slice (some ⟨g, 0, none⟩) (l.length + 1 + 1) cp))) (xnB (plain T.name 0, .map none, .map none)) = w2 at *
 have HC : Calls Try.prog 36 #[.pointer (some ⟨Q.c, 0, none⟩), nodeV a va, .int .i64 row] w2 fun en w' => en = .returned (.int .i64 p.1) ∧ CS w2 ((Q.and w.heap.size).and (w.heap.size + 1)) K es ops w' p.2 := ih (Q := (Q.and w.heap.size).and (w.heap.size + 1)) h2.out (by omega) (Kids.and (n := (w.heap.size + 1)) (CM.kids (Q := Q.and w.heap.size) h1.out hka.out hc2.out)) hp_p.out
 have p3 := CM.cell (Q := Q.and w.heap.size) h1.out (Or.inr rfl) hc2.out P3.out
 have p4 := CM.cell (Q := Q.and w.heap.size) h1.out (Or.inr rfl) hc2.out P4.out
 obtain ⟨a0, a1, a2, a3, a4⟩ := CM.node (Q := Q.and w.heap.size) h1.out (Or.inl hFg.out) hc2.out Aa.out
 go_upto_region 7 with (go_at_call 36; refine HC.mono ?_; clear HC; rintro en w3 ⟨rfl, hg⟩)
 clear p3 p4 a0 a1 a2 a3 a4
 obtain ⟨K3, h3, hc3, hm3⟩ := hg
 have hB3 : Hid (w3.heap[(w.heap.size + 1)]? = some (xnB (plain T.name 0, .map none, .map none))) := hid ((CM.kept (Q := (Q.and w.heap.size).and (w.heap.size + 1)) h2.out (Or.inr rfl) hc3).trans hB2.out)
 replace hm3 := hid (hm2.out.two hm3 hc2.out.size)
 replace hc3 := hid (hc2.out.two hc3 hm2.out)
 replace h3 := hid h3
 have HC : Calls Try.prog 29 #[.pointer (some ⟨Q.c, 0, none⟩), .int .i64 p.1, .int .i64 T.pos] w3 fun en w' => en = .returned (.tuple #[]) ∧ Ch (fun _ => False) w3 w' := Big_ck (Q := (Q.and w.heap.size).and (w.heap.size + 1)) T.pos h3.out hp_u.out
 have p1 := CM.cell (Q := Q.and w.heap.size) h1.out (Or.inr rfl) hc3.out P1.out
 go_upto_region 8 with (go_at_call 29; refine HC.mono ?_; clear HC; rintro en w4 ⟨rfl, hqb⟩)
 clear p1
 obtain ⟨K4, h4, hc4, hm4⟩ := (CS.refl h3.out).quiet hqb
 have hB4 : Hid (w4.heap[(w.heap.size + 1)]? = some (xnB (plain T.name 0, .map none, .map none))) := hid ((CM.kept (Q := (Q.and w.heap.size).and (w.heap.size + 1)) h3.out (Or.inr rfl) hc4).trans hB3.out)
 replace hm4 := hid (hm3.out.two hm4 hc3.out.size)
 replace hc4 := hid (hc3.out.two hc4 hm3.out)
 replace h4 := hid h4
 have yf : ∀ i, w4.frozen? ⟨(w.heap.size + 1), i, none⟩ = false := fun i => (by unfold World.frozen?; rw [hB4.out]; simp)
 obtain ⟨y0, y1, y2, y3, y4, y5⟩ := box_cells hB4.out
 go_upto_region 9 with (fail)
 clear yf y0 y1 y2 y3 y4 y5
 have hs5 := (Ch.setCell (O := fun j => j = (w.heap.size + 1)) w4 ⟨(w.heap.size + 1), 1, none⟩ (.int .i64 p.1) rfl)
 have hB5 := (blk_set (i := 1) (v := .int .i64 p.1) hB4.out)
 have hno := (h4.out.tf (w.heap.size + 1) (Or.inr rfl)).2
 have h5 := CM.store (Q := (Q.and w.heap.size).and (w.heap.size + 1)) h1.out ⟨rfl, rfl, rfl⟩ h4.out hc4.out hm4.out (Nat.le_of_eq hz1.out) hB4.out hno hs5
 have hc5 := hc4.out.trans hs5 (fun i hi => Or.inr (by rw [hz1.out, hi]; exact Nat.le_refl _))
 generalize World.setCell w4 _ _ = w5 at *
 replace hB5 : Hid (w5.heap[(w.heap.size + 1)]? = some (xnB (plain T.name p.1, .map none, .map none))) := hid (hB5.trans (by simp [plain]))
 replace h5 := hid h5
 replace hc5 := hid hc5
 have hm5 := hm4
 clear hno
 clear hs5
 have HC : Calls Try.prog 86 #[nodeV a va] w5 fun en w' => en = .returned (.bool (value a.kind)) ∧ Ch (fun _ => False) w5 w' := Value_any rfl
 rw [hval.out] at HC
 have p4 := CM.cell (Q := Q.and w.heap.size) h1.out (Or.inr rfl) hc5.out P4.out
 obtain ⟨a0, a1, a2, a3, a4⟩ := CM.node (Q := Q.and w.heap.size) h1.out (Or.inl hFg.out) hc5.out Aa.out
 go_upto_region 10 with (go_at_call 86; refine HC.mono ?_; clear HC; rintro en w6 ⟨rfl, hqv⟩)
 clear p4 a0 a1 a2 a3 a4
 obtain ⟨K6, h6, hc6, hm6⟩ := (CS.refl h5.out).quiet hqv
 have hB6 : Hid (w6.heap[(w.heap.size + 1)]? = some (xnB (plain T.name p.1, .map none, .map none))) := hid ((CM.kept (Q := (Q.and w.heap.size).and (w.heap.size + 1)) h5.out (Or.inr rfl) hc6).trans hB5.out)
 replace hm6 := hid (hm5.out.two hm6 hc5.out.size)
 replace hc6 := hid (hc5.out.two hc6 hm5.out)
 replace h6 := hid h6
 have HC : Calls Try.prog 30 #[.pointer (some ⟨Q.c, 0, none⟩), str T.name, .int .i64 p.1] w6 fun en w' => ∃ t r, en = .returned (nmV (x, .map (some t), .map (some r))) ∧ SM w' t x.tv ∧ SM w' r x.rv ∧ w6.heap.size ≤ t ∧ w6.heap.size ≤ r ∧ x.all = true ∧ Ch (fun _ => False) w6 w' := General_any (Q := (Q.and w.heap.size).and (w.heap.size + 1)) h6.out (by omega) hp_x.out
 have p2 := CM.cell (Q := Q.and w.heap.size) h1.out (Or.inr rfl) hc6.out P2.out
 go_upto_region 11 with (go_at_call 30; refine HC.mono ?_; clear HC; rintro en wg ⟨ts, rs, rfl, s1, s2, z1, z2, -, hqg⟩; have hBg := (hqg.same _ (Array.getElem?_eq_some_iff.1 hB6.out).1 (fun h => h)).trans hB6.out; have yf : ∀ i, wg.frozen? ⟨(w.heap.size + 1), i, none⟩ = false := fun i => (by unfold World.frozen?; rw [hBg]; simp); obtain ⟨y0, y1, y2, y3, y4, y5⟩ := box_cells hBg)
 have hg := h6.out.quiet hqg
 have hcg := hc6.out.trans hqg (fun _ h => h.elim)
 have hBl := (Array.getElem?_eq_some_iff.1 hB6.out).1
 clear yf p2 y0 y1 y2 y3 y4 y5
 have hs7 := ((((((Ch.setCell (O := fun j => j = (w.heap.size + 1)) wg ⟨(w.heap.size + 1), 0, none⟩ (str x.name) rfl).set (a := ⟨(w.heap.size + 1), 1, none⟩) rfl (.int .i64 x.t)).set (a := ⟨(w.heap.size + 1), 2, none⟩) rfl (.bool x.all)).set (a := ⟨(w.heap.size + 1), 3, none⟩) rfl (.map (some ts))).set (a := ⟨(w.heap.size + 1), 4, none⟩) rfl (.map (some rs))).set (a := ⟨(w.heap.size + 1), 5, none⟩) rfl (.bool x.opn))
 have hB7 := (blk_set (i := 5) (v := .bool x.opn) (blk_set (i := 4) (v := .map (some rs)) (blk_set (i := 3) (v := .map (some ts)) (blk_set (i := 2) (v := .bool x.all) (blk_set (i := 1) (v := .int .i64 x.t) (blk_set (i := 0) (v := str x.name) hBg))))))
 have hno := (hg.tf (w.heap.size + 1) (Or.inr rfl)).2
 have h7 := CM.store (Q := (Q.and w.heap.size).and (w.heap.size + 1)) h1.out ⟨rfl, rfl, rfl⟩ hg hcg hm6.out (Nat.le_of_eq hz1.out) hBg hno hs7
 have hc7 := hcg.trans hs7 (fun i hi => Or.inr (by rw [hz1.out, hi]; exact Nat.le_refl _))
 generalize World.setCell (World.setCell (World.setCell (World.setCell (World.setCell (World.setCell wg _ _) _ _) _ _) _ _) _ _) _ _ = w7 at *
 replace hB7 : Hid (w7.heap[(w.heap.size + 1)]? = some (xnB (x, .map (some ts), .map (some rs)))) := hid (hB7.trans (by simp [plain]))
 replace h7 := hid h7
 replace hc7 := hid hc7
 have hm7 := hm6
 clear hno
 have hN := hid (CM.gen h6.out (s1.ch hs7 (by omega)) (s2.ch hs7 (by omega)) z1 z2)
 clear s1 s2 z1 z2 hqg hg hcg hBl hs7 hBg
 have HC : Calls Try.prog 31 #[.pointer (some ⟨Q.c, 0, none⟩), nmV (x, .map (some ts), .map (some rs))] w7 fun en w' => en = .returned (.tuple #[]) ∧ CS w7 ((Q.and w.heap.size).and (w.heap.size + 1)) K6 (es ++ [(x, .map (some ts), .map (some rs))]) ops w' p.2 := With_any (Q := (Q.and w.heap.size).and (w.heap.size + 1)) h7.out (by omega) hN.out
 obtain ⟨y0, y1, y2, y3, y4, y5⟩ := box_cells hB7.out
 go_upto_region 12 with (go_at_call 31; refine HC.mono ?_; clear HC; rintro en w8 ⟨rfl, hg⟩)
 clear y0 y1 y2 y3 y4 y5
 obtain ⟨K8, h8, hc8, hm8⟩ := CS.roll hg hc7 hm7
 have HC : Calls Try.prog 36 #[.pointer (some ⟨Q.c, 0, none⟩), nodeV b vb, .int .i64 row] w8 fun en w' => en = .returned (.int .i64 m) ∧ CS w8 ((Q.and w.heap.size).and (w.heap.size + 1)) K8 (es ++ [(x, .map (some ts), .map (some rs))]) ops w' e' := ih (Q := (Q.and w.heap.size).and (w.heap.size + 1)) h8.out (by simp; omega) (Kids.and (n := (w.heap.size + 1)) (CM.kids (Q := Q.and w.heap.size) h1.out hkb.out hc8.out)) (by simpa using hp_q.out)
 have p4 := CM.cell (Q := Q.and w.heap.size) h1.out (Or.inr rfl) hc8.out P4.out
 obtain ⟨b0, b1, b2, b3, b4⟩ := CM.node (Q := Q.and w.heap.size) h1.out (Or.inl hFg.out) hc8.out Ab.out
 go_upto_region 13 with (go_at_call 36; refine HC.mono ?_; clear HC; rintro en w9 ⟨rfl, hg⟩)
 clear p4 b0 b1 b2 b3 b4
 obtain ⟨K9, h9, hc9, hm9⟩ := CS.roll hg hc8 hm8
 have HC : Calls Try.prog 52 #[.pointer (some ⟨Q.c, 0, none⟩), .int .i64 1] w9 fun en w' => en = .returned (.tuple #[]) ∧ CS w9 ((Q.and w.heap.size).and (w.heap.size + 1)) K9 es ops w' e' := Out_any (Q := (Q.and w.heap.size).and (w.heap.size + 1)) (es := es) (xs := [(x, .map (some ts), .map (some rs))]) h9.out (by simp; omega) (by simp)
 go_wp2_with (go_at_call 52; refine HC.mono ?_; clear HC; rintro en w10 ⟨rfl, hg⟩)
 go_ret
 exact ⟨rfl, CS.pre hq.out (CS.back (CS.back (CS.after (Q := (Q.and w.heap.size).and (w.heap.size + 1)) hc9.out hm9.out hg)))⟩
theorem Let_plain {f k : Nat} (ih : InfOK f ops k) {a b : Sy.Tr} {l : List Sy.Tr} (h : CM w Q K es ops e) (hl : es.length + 2 * (k + 1) < 1000000) (hv : Kids w Q.F v T.kids) (hnum : (T.num == 1) = false) (hval : value a.kind = false) (hks : T.kids = a :: b :: l) (hp : ((exprE f ops k (es.map (·.1)) e a row).bind fun p => (bigE f p.2 p.1).bind fun _ => exprE f ops k (es.map (·.1) ++ [plain T.name p.1]) p.2 b row) = some (m, e')) :
  Calls Try.prog 66 #[.pointer (some ⟨Q.c, 0, none⟩), nodeV T v, .int .i64 row] w fun en w' => en = .returned (.int .i64 m) ∧ CS w Q K es ops w' e' := by
 obtain ⟨p, hp_p, g0⟩ := Option.bind_eq_some_iff.1 hp
 obtain ⟨u, hp_u, hp_q⟩ := Option.bind_eq_some_iff.1 g0
 clear g0
 have hvT := hv
 rw [hks] at hv
 obtain ⟨g, cp, hvv, hFg, hn⟩ := hv.cons (by simp)
 simp only [List.length_cons] at hvv
 subst hvv
 have j0 : (0 : Int) < (l.length : Int) + 1 + 1 := by omega
 have j1 : (1 : Int) < (l.length : Int) + 1 + 1 := by omega
 obtain ⟨va, Aa, hka⟩ := hn 0 a rfl
 obtain ⟨vb, Ab, hkb⟩ := hn 1 b rfl
 have hb := World.alloc_heap_new w (nodeB T (.slice (some ⟨g, 0, none⟩) (l.length + 1 + 1) cp))
 have hq := hid (al_ch w (nodeB T (.slice (some ⟨g, 0, none⟩) (l.length + 1 + 1) cp)))
 have h1 := hid (h.box (T := T) (v := (.slice (some ⟨g, 0, none⟩) (l.length + 1 + 1) cp)))
 obtain ⟨p0, p1, p2, p3, p4⟩ := node_cells hb
 have P1 := hid p1
 have P2 := hid p2
 have P3 := hid p3
 have P4 := hid p4
 have P0 := hid p0
 have hz1 : (w.alloc (nodeB T (.slice (some ⟨g, 0, none⟩) (l.length + 1 + 1) cp))).heap.size = w.heap.size + 1 := by simp
 replace Aa := hid (Aa.of_heap (hq.out.same g Aa.lt (fun h => h)))
 replace Ab := hid (Ab.of_heap (hq.out.same g Ab.lt (fun h => h)))
 replace hka := hid (Kids.and (n := w.heap.size) (hka.quiet hq.out))
 replace hkb := hid (Kids.and (n := w.heap.size) (hkb.quiet hq.out))
 replace hvT := hid (Kids.and (n := w.heap.size) (hvT.quiet hq.out))
 replace hFg := hid hFg
 have hqx := al_ch (w.alloc (nodeB T (.slice (some ⟨g, 0, none⟩) (l.length + 1 + 1) cp))) (xnB (plain T.name 0, .map none, .map none))
 have h2 := hid ((h1.out.quiet hqx).and (n := (w.heap.size + 1)) (by simp) (fun ho => by have := h1.out.lt ho; omega))
 have hc2 := hid (hqx.mono (O1 := K.own ((Q.and w.heap.size).and (w.heap.size + 1))) (fun _ h => h.elim))
 have hm2 : Hid (More (w.alloc (nodeB T (.slice (some ⟨g, 0, none⟩) (l.length + 1 + 1) cp))) (K.own ((Q.and w.heap.size).and (w.heap.size + 1))) (K.own ((Q.and w.heap.size).and (w.heap.size + 1)))) := hid fun _ h => .inl h
 have hB2 := hid (World.alloc_heap_new (w.alloc (nodeB T (.slice (some ⟨g, 0, none⟩) (l.length + 1 + 1) cp))) (xnB (plain T.name 0, .map none, .map none)))
 rw [hz1] at hB2
 replace hp_p := hid hp_p
 replace hp_u := hid hp_u
 replace hp_q := hid hp_q
 replace hval := hid hval
 clear hb hks hp h hv hn hqx p0 p1 p3 p4
 go_enter Try.func66, Try.ntmps66
 go_upto_region 2 with (fail)
 clear p2
 replace hz1 := hid hz1
 change Code.wp _ _ _ _ (World.alloc (w.alloc (nodeB T (.slice (some ⟨g, 0, none⟩) (l.length + 1 + 1) cp))) (xnB (plain T.name 0, .map none, .map none)))
 generalize World.alloc (w.alloc (nodeB T (.slice (some ⟨g, 0, none⟩) (l.length + 1 + 1) cp))) (xnB (plain T.name 0, .map none, .map none)) = w2 at *
 have HC : Calls Try.prog 36 #[.pointer (some ⟨Q.c, 0, none⟩), nodeV a va, .int .i64 row] w2 fun en w' => en = .returned (.int .i64 p.1) ∧ CS w2 ((Q.and w.heap.size).and (w.heap.size + 1)) K es ops w' p.2 := ih (Q := (Q.and w.heap.size).and (w.heap.size + 1)) h2.out (by omega) (Kids.and (n := (w.heap.size + 1)) (CM.kids (Q := Q.and w.heap.size) h1.out hka.out hc2.out)) hp_p.out
 have p3 := CM.cell (Q := Q.and w.heap.size) h1.out (Or.inr rfl) hc2.out P3.out
 have p4 := CM.cell (Q := Q.and w.heap.size) h1.out (Or.inr rfl) hc2.out P4.out
 obtain ⟨a0, a1, a2, a3, a4⟩ := CM.node (Q := Q.and w.heap.size) h1.out (Or.inl hFg.out) hc2.out Aa.out
 go_upto_region 7 with (go_at_call 36; refine HC.mono ?_; clear HC; rintro en w3 ⟨rfl, hg⟩)
 clear p3 p4 a0 a1 a2 a3 a4
 obtain ⟨K3, h3, hc3, hm3⟩ := hg
 have hB3 : Hid (w3.heap[(w.heap.size + 1)]? = some (xnB (plain T.name 0, .map none, .map none))) := hid ((CM.kept (Q := (Q.and w.heap.size).and (w.heap.size + 1)) h2.out (Or.inr rfl) hc3).trans hB2.out)
 replace hm3 := hid (hm2.out.two hm3 hc2.out.size)
 replace hc3 := hid (hc2.out.two hc3 hm2.out)
 replace h3 := hid h3
 have HC : Calls Try.prog 29 #[.pointer (some ⟨Q.c, 0, none⟩), .int .i64 p.1, .int .i64 T.pos] w3 fun en w' => en = .returned (.tuple #[]) ∧ Ch (fun _ => False) w3 w' := Big_ck (Q := (Q.and w.heap.size).and (w.heap.size + 1)) T.pos h3.out hp_u.out
 have p1 := CM.cell (Q := Q.and w.heap.size) h1.out (Or.inr rfl) hc3.out P1.out
 go_upto_region 8 with (go_at_call 29; refine HC.mono ?_; clear HC; rintro en w4 ⟨rfl, hqb⟩)
 clear p1
 obtain ⟨K4, h4, hc4, hm4⟩ := (CS.refl h3.out).quiet hqb
 have hB4 : Hid (w4.heap[(w.heap.size + 1)]? = some (xnB (plain T.name 0, .map none, .map none))) := hid ((CM.kept (Q := (Q.and w.heap.size).and (w.heap.size + 1)) h3.out (Or.inr rfl) hc4).trans hB3.out)
 replace hm4 := hid (hm3.out.two hm4 hc3.out.size)
 replace hc4 := hid (hc3.out.two hc4 hm3.out)
 replace h4 := hid h4
 have yf : ∀ i, w4.frozen? ⟨(w.heap.size + 1), i, none⟩ = false := fun i => (by unfold World.frozen?; rw [hB4.out]; simp)
 obtain ⟨y0, y1, y2, y3, y4, y5⟩ := box_cells hB4.out
 go_upto_region 9 with (fail)
 clear yf y0 y1 y2 y3 y4 y5
 have hs5 := (Ch.setCell (O := fun j => j = (w.heap.size + 1)) w4 ⟨(w.heap.size + 1), 1, none⟩ (.int .i64 p.1) rfl)
 have hB5 := (blk_set (i := 1) (v := .int .i64 p.1) hB4.out)
 have hno := (h4.out.tf (w.heap.size + 1) (Or.inr rfl)).2
 have h5 := CM.store (Q := (Q.and w.heap.size).and (w.heap.size + 1)) h1.out ⟨rfl, rfl, rfl⟩ h4.out hc4.out hm4.out (Nat.le_of_eq hz1.out) hB4.out hno hs5
 have hc5 := hc4.out.trans hs5 (fun i hi => Or.inr (by rw [hz1.out, hi]; exact Nat.le_refl _))
 generalize World.setCell w4 _ _ = w5 at *
 replace hB5 : Hid (w5.heap[(w.heap.size + 1)]? = some (xnB (plain T.name p.1, .map none, .map none))) := hid (hB5.trans (by simp [plain]))
 replace h5 := hid h5
 replace hc5 := hid hc5
 have hm5 := hm4
 clear hno
 clear hs5
 have HC : Calls Try.prog 86 #[nodeV a va] w5 fun en w' => en = .returned (.bool (value a.kind)) ∧ Ch (fun _ => False) w5 w' := Value_any rfl
 rw [hval.out] at HC
 have p4 := CM.cell (Q := Q.and w.heap.size) h1.out (Or.inr rfl) hc5.out P4.out
 obtain ⟨a0, a1, a2, a3, a4⟩ := CM.node (Q := Q.and w.heap.size) h1.out (Or.inl hFg.out) hc5.out Aa.out
 go_upto_region 11 with (go_at_call 86; refine HC.mono ?_; clear HC; rintro en w6 ⟨rfl, hqv⟩)
 clear p4 a0 a1 a2 a3 a4
 obtain ⟨K6, h6, hc6, hm6⟩ := (CS.refl h5.out).quiet hqv
 have hB6 : Hid (w6.heap[(w.heap.size + 1)]? = some (xnB (plain T.name p.1, .map none, .map none))) := hid ((CM.kept (Q := (Q.and w.heap.size).and (w.heap.size + 1)) h5.out (Or.inr rfl) hc6).trans hB5.out)
 replace hm6 := hid (hm5.out.two hm6 hc5.out.size)
 replace hc6 := hid (hc5.out.two hc6 hm5.out)
 replace h6 := hid h6
 have HC : Calls Try.prog 31 #[.pointer (some ⟨Q.c, 0, none⟩), nmV (plain T.name p.1, .map none, .map none)] w6 fun en w' => en = .returned (.tuple #[]) ∧ CS w6 ((Q.and w.heap.size).and (w.heap.size + 1)) K6 (es ++ [(plain T.name p.1, .map none, .map none)]) ops w' p.2 := With_any (Q := (Q.and w.heap.size).and (w.heap.size + 1)) h6.out (by omega) NamOK.plain
 obtain ⟨y0, y1, y2, y3, y4, y5⟩ := box_cells hB6.out
 go_upto_region 12 with (go_at_call 31; refine HC.mono ?_; clear HC; rintro en w7 ⟨rfl, hg⟩)
 clear y0 y1 y2 y3 y4 y5
 obtain ⟨K7, h7, hc7, hm7⟩ := CS.roll hg hc6 hm6
 have HC : Calls Try.prog 36 #[.pointer (some ⟨Q.c, 0, none⟩), nodeV b vb, .int .i64 row] w7 fun en w' => en = .returned (.int .i64 m) ∧ CS w7 ((Q.and w.heap.size).and (w.heap.size + 1)) K7 (es ++ [(plain T.name p.1, .map none, .map none)]) ops w' e' := ih (Q := (Q.and w.heap.size).and (w.heap.size + 1)) h7.out (by simp; omega) (Kids.and (n := (w.heap.size + 1)) (CM.kids (Q := Q.and w.heap.size) h1.out hkb.out hc7.out)) (by simpa using hp_q.out)
 have p4 := CM.cell (Q := Q.and w.heap.size) h1.out (Or.inr rfl) hc7.out P4.out
 obtain ⟨b0, b1, b2, b3, b4⟩ := CM.node (Q := Q.and w.heap.size) h1.out (Or.inl hFg.out) hc7.out Ab.out
 go_upto_region 13 with (go_at_call 36; refine HC.mono ?_; clear HC; rintro en w8 ⟨rfl, hg⟩)
 clear p4 b0 b1 b2 b3 b4
 obtain ⟨K8, h8, hc8, hm8⟩ := CS.roll hg hc7 hm7
 have HC : Calls Try.prog 52 #[.pointer (some ⟨Q.c, 0, none⟩), .int .i64 1] w8 fun en w' => en = .returned (.tuple #[]) ∧ CS w8 ((Q.and w.heap.size).and (w.heap.size + 1)) K8 es ops w' e' := Out_any (Q := (Q.and w.heap.size).and (w.heap.size + 1)) (es := es) (xs := [(plain T.name p.1, .map none, .map none)]) h8.out (by simp; omega) (by simp)
 go_wp2_with (go_at_call 52; refine HC.mono ?_; clear HC; rintro en w9 ⟨rfl, hg⟩)
 go_ret
 exact ⟨rfl, CS.pre hq.out (CS.back (CS.back (CS.after (Q := (Q.and w.heap.size).and (w.heap.size + 1)) hc8.out hm8.out hg)))⟩
theorem Let_any {f k : Nat} (ih : InfOK f ops k) (h : CM w Q K es ops e) (hl : es.length + 2 * (k + 1) < 1000000) (hv : Kids w Q.F v T.kids) (hp : letE f (exprE f ops k) (es.map (·.1)) e T row = some (m, e')) :
  Calls Try.prog 66 #[.pointer (some ⟨Q.c, 0, none⟩), nodeV T v, .int .i64 row] w fun en w' => en = .returned (.int .i64 m) ∧ CS w Q K es ops w' e' := by
 unfold letE at hp
 split at hp
 ·rename_i a b l hks
  by_cases hn : T.num = 1
  ·rw [if_pos hn, Option.bind_assoc] at hp
   refine Let_rec ih h hl hv hn hks ?_; rw [← hp]
   congr 1
   funext p
   rw [Option.bind_assoc]
   congr 1
   funext u
   cases general f p.2 (es.map (·.1)) T.name p.1 <;> rfl
  ·rw [if_neg hn, Option.bind_assoc] at hp
   cases hval : value a.kind with
   | true =>
    refine Let_val ih h hl hv (by simpa using hn) hval hks ?_; rw [← hp]
    congr 1
    funext p
    rw [Option.bind_assoc]
    congr 1
    funext u
    rw [hval]; cases general f p.2 (es.map (·.1)) T.name p.1 <;> rfl
   | false =>
    refine Let_plain ih h hl hv (by simpa using hn) hval hks ?_; rw [← hp]
    congr 1
    funext p
    rw [Option.bind_assoc]
    congr 1
    funext u
    rw [hval]; rfl
 ·cases hp
end
end Go.Proofs.Ytejciampbnfbhaa

namespace Go.Proofs.Ytejciampbnfbhaa
open Go.RowKit Ie
section
variable {w w' : World} {Q : Cc} {K : Ck} {es : Env} {ops : List Opr} {e e' : E}
theorem CM.blank (h : CM w Q K es ops e) : ∃ w0, Past w0 w Q.b K.G ∧ OpsIn w0 Q.ov ops := by
 classical
 have hget : ∀ k, (w.heap.mapIdx fun k o => if K.own Q k then Obj.map #[] 0 else o)[k]? = (w.heap[k]?).map fun o => if K.own Q k then Obj.map #[] 0 else o := fun k => by simp
 have hcel : ∀ k, Cel { w with heap := w.heap.mapIdx fun k o => if K.own Q k then Obj.map #[] 0 else o } k → ¬ K.own Q k := by
  rintro k ⟨i, v, hv⟩ ho
  unfold World.cell? at hv
  dsimp only at hv
  rw [hget] at hv
  cases hk : w.heap[k]? <;> simp [hk, ho] at hv
 have hsame : ∀ k, ¬ K.own Q k → (w.heap.mapIdx fun k o => if K.own Q k then Obj.map #[] 0 else o)[k]? = w.heap[k]? := fun k hn => by
  rw [hget]
  cases w.heap[k]? <;> simp [hn]
 refine ⟨{ w with heap := w.heap.mapIdx fun k o => if K.own Q k then Obj.map #[] 0 else o }, ⟨fun k hk => ?_, fun k hk => (hsame k (hcel k hk)).symm, fun k hk hc => hcel k hc (.inl hk)⟩, h.ops _ (fun k _ hn => hsame k hn)⟩
 have := hk.lt
 simpa using this
theorem GE.Of {w0 : World} {b : Nat} {G : Gg} (h : GE w b G e) (hp : Past w0 w b G) {t : Ty.P} {os az : Value} (ht : IsT w0 t os az) (hs : t.parts ≤ 300) {m : Int} (ho : Ie.of t e = some (m, e')) :
  Calls Try.prog 87 #[.pointer (some ⟨b, 0, none⟩), tyV t.kind t.num t.row os az] w fun en w' => en = .returned (.int .i64 m) ∧ GT w b G w' e' := by
 obtain ⟨d, h1, h2⟩ := h
 obtain ⟨rfl, h4⟩ := R.of h1 ho
 exact (Of_any w0 b t h2 (h1.room (by omega)) hp ht).mono fun en w' h => ⟨h.1, GT.of h.2 h4⟩
theorem CM.op (h : CM w Q K es ops e) {i : Nat} {o : Opr} (ho : ops[i]? = some o) {g n c : Nat} (hov : Q.ov = .slice (some ⟨g, 0, none⟩) n c) (hs : o.ti.parts ≤ 300 ∧ o.to.parts ≤ 300) :
  (∃ os az, El w g (i * 12 + 1) o.ti.kind o.ti.num o.ti.row os az ∧ ∀ {m : Int} {e' : E}, Ie.of o.ti e = some (m, e') → Calls Try.prog 87 #[.pointer (some ⟨Q.b, 0, none⟩), tyV o.ti.kind o.ti.num o.ti.row os az] w fun en w' => en = .returned (.int .i64 m) ∧ GT w Q.b K.G w' e') ∧
  ∃ os az, El w g (i * 12 + 6) o.to.kind o.to.num o.to.row os az ∧ ∀ {m : Int} {e' : E}, Ie.of o.to e = some (m, e') → Calls Try.prog 87 #[.pointer (some ⟨Q.b, 0, none⟩), tyV o.to.kind o.to.num o.to.row os az] w fun en w' => en = .returned (.int .i64 m) ∧ GT w Q.b K.G w' e' := by
 obtain ⟨w0, hp, a, cap, hv, hg⟩ := h.blank
 rw [hov] at hv
 obtain ⟨rfl, rfl, rfl⟩ := by simpa only [Value.slice.injEq] using hv
 obtain ⟨g', hg1, hat⟩ := hg (by have := (List.getElem?_eq_some_iff.1 ho).1; omega)
 obtain rfl : g = g' := by simpa using hg1
 obtain ⟨os, az, os2, az2, n2, -, h1, h2, h3, h4, -⟩ := hat i o ho
 exact ⟨⟨os, az, hp.el h1, fun hf => h.ge.Of hp h2 hs.1 hf⟩, os2, az2, hp.el h3, fun hf => h.ge.Of hp h4 hs.2 hf⟩
def OpsOK (ops : List Opr) : Prop := ops.length < 1000000 ∧ ∀ o ∈ ops, o.ti.parts ≤ 300 ∧ o.to.parts ≤ 300
theorem OpsOK.at (h : OpsOK ops) {i : Nat} {o : Opr} (ho : ops[i]? = some o) : o.ti.parts ≤ 300 ∧ o.to.parts ≤ 300 := h.2 o (List.mem_of_getElem? ho)
theorem CM.opc (h : CM w Q K es ops e) (hl : OpsOK ops) {name : List UInt8} {o : Opr} (hf : ops.find? (fun o => o.name == name) = some o) : Calls Try.prog 46 #[.pointer (some ⟨Q.c, 0, none⟩), str name] w fun en w' => (∃ g i cap, en = .returned (.pointer (some ⟨g, i * 12, none⟩)) ∧ ops[i]? = some o ∧ Q.ov = .slice (some ⟨g, 0, none⟩) ops.length cap) ∧ Ch (fun _ => False) w w' :=
 (Op_any h.cells.2.2.1 (h.ops w (fun _ _ _ => rfl)) hl.1 name).mono fun en w' ⟨hc, hr⟩ => by
  rcases hr with ⟨hno, -⟩ | ⟨g, i, o', hf', hi, rfl, -, cap, hov⟩
  ·rw [hf] at hno; cases hno
  ·obtain rfl : o = o' := Option.some.inj (hf.symm.trans hf')
   exact ⟨⟨g, i, cap, rfl, hi, hov⟩, hc⟩
end
end Go.Proofs.Ytejciampbnfbhaa

namespace Go.Proofs.Ytejciampbnfbhaa
open Go.RowKit Ie
section
variable {w : World} {Q : Cc} {K : Ck} {es : Env} {ops : List Opr} {e e' : E} {T : Sy.Tr} {v : Value} {row m : Int}
theorem Does_any {f k : Nat} (ih : InfOK f ops k) {a : Sy.Tr} {l : List Sy.Tr} (h : CM w Q K es ops e) (hl : es.length + 2 * (k + 1) < 1000000) (hv : Kids w Q.F v T.kids) (hol : OpsOK ops) (hks : T.kids = a :: l) (hp : ((ops.find? (fun o => o.name == T.name)).bind fun o => (exprE f ops k (es.map (·.1)) e a row).bind fun x => (of o.ti x.2).bind fun i => (of o.to i.2).bind fun u => (samE f u.2 x.1 i.1).bind fun e => (e.opn).bind fun v => (v.2.putRow [T.name] v.1).bind fun r => (rowE f r.2 row r.1).map fun e => (u.1, e)) = some (m, e')) :
  Calls Try.prog 68 #[.pointer (some ⟨Q.c, 0, none⟩), nodeV T v, .int .i64 row] w fun en w' => en = .returned (.int .i64 m) ∧ CS w Q K es ops w' e' := by
 obtain ⟨o, hp_o, g0⟩ := Option.bind_eq_some_iff.1 hp
 obtain ⟨x, hp_x, g1⟩ := Option.bind_eq_some_iff.1 g0
 obtain ⟨i, hp_i, g2⟩ := Option.bind_eq_some_iff.1 g1
 obtain ⟨u, hp_u, g3⟩ := Option.bind_eq_some_iff.1 g2
 obtain ⟨e3, hp_e3, g4⟩ := Option.bind_eq_some_iff.1 g3
 obtain ⟨r, hp_r, g5⟩ := Option.bind_eq_some_iff.1 g4
 obtain ⟨s, hp_s, g6⟩ := Option.bind_eq_some_iff.1 g5
 obtain ⟨e4, hp_e4, g7⟩ := Option.map_eq_some_iff.1 g6
 obtain ⟨rfl, rfl⟩ := Prod.mk.inj g7
 clear g0 g1 g2 g3 g4 g5 g6 g7
 rw [hks] at hv
 obtain ⟨g, cp, hvv, hFg, hn⟩ := hv.cons (by simp)
 simp only [List.length_cons] at hvv
 subst hvv
 have j0 : (0 : Int) < (l.length : Int) + 1 := by omega
 obtain ⟨va, Aa, hka⟩ := hn 0 a rfl
 have hb := World.alloc_heap_new w (nodeB T (.slice (some ⟨g, 0, none⟩) (l.length + 1) cp))
 have hq := hid (al_ch w (nodeB T (.slice (some ⟨g, 0, none⟩) (l.length + 1) cp)))
 have h1 := hid (h.box (T := T) (v := .slice (some ⟨g, 0, none⟩) (l.length + 1) cp))
 obtain ⟨p0, p1, p2, p3, p4⟩ := node_cells hb
 have P3 := hid p3
 have P0 := hid p0
 have P1 := hid p1
 have P2 := hid p2
 have P4 := hid p4
 have c0 := h1.out.c0
 have HO := h1.out.ok0
 replace Aa := hid (Aa.of_heap (hq.out.same g Aa.lt (fun h => h)))
 replace hka := hid (Kids.and (n := w.heap.size) (hka.quiet hq.out))
 replace hFg := hid hFg
 replace hp_o := hid hp_o
 replace hp_x := hid hp_x
 replace hp_i := hid hp_i
 replace hp_u := hid hp_u
 replace hp_e3 := hid hp_e3
 replace hp_r := hid hp_r
 replace hp_s := hid hp_s
 replace hp_e4 := hid hp_e4
 clear hb hks hp h hv hn p1 p2 p3 p4
 have hc1 : Hid (Ch (K.own (Q.and w.heap.size)) (w.alloc (nodeB T (.slice (some ⟨g, 0, none⟩) (l.length + 1) cp))) (w.alloc (nodeB T (.slice (some ⟨g, 0, none⟩) (l.length + 1) cp)))) := hid (Ch.refl _ _)
 have hm1 : Hid (More (w.alloc (nodeB T (.slice (some ⟨g, 0, none⟩) (l.length + 1) cp))) (K.own (Q.and w.heap.size)) (K.own (Q.and w.heap.size))) := hid fun _ h => .inl h
 go_enter Try.func68, Try.ntmps68
 have HC := CM.opc h1.out hol hp_o.out
 have p2 := CM.cell (Q := Q.and w.heap.size) h1.out (Or.inr rfl) hc1.out P2.out
 go_upto_region 6 with (go_at_call 46; refine HC.mono ?_; clear HC; rintro en w2 ⟨⟨go, io, capo, rfl, hio, hov⟩, hqo⟩)
 obtain ⟨K2, h2, hc2, hm2⟩ := CS.roll ((CS.refl h1.out).quiet hqo) hc1 hm1
 have hos := hid (hol.at hio)
 replace hio := hid hio
 replace hov := hid hov
 clear hqo p2 HO
 have HC : Calls Try.prog 36 #[.pointer (some ⟨Q.c, 0, none⟩), nodeV a va, .int .i64 row] (w2) fun en w' => en = .returned (.int .i64 x.1) ∧ CS (w2) (Q.and w.heap.size) K2 (es) ops w' x.2 := ih (Q := Q.and w.heap.size) h2.out (by first | omega | (simp; omega)) (CM.kids (Q := Q.and w.heap.size) h1.out hka.out hc2.out) (by first | exact hp_x.out | simpa using hp_x.out)
 have p4 := CM.cell (Q := Q.and w.heap.size) h1.out (Or.inr rfl) hc2.out P4.out
 obtain ⟨a0, a1, a2, a3, a4⟩ := CM.node (Q := Q.and w.heap.size) h1.out (Or.inl hFg.out) hc2.out Aa.out
 go_upto_region 7 with (go_at_call 36; refine HC.mono ?_; clear HC; rintro en w3 ⟨rfl, hg⟩)
 obtain ⟨K3, h3, hc3, hm3⟩ := CS.roll hg hc2 hm2
 clear p4 a0 a1 a2 a3 a4
 obtain ⟨os, az, hE, HC⟩ := (CM.op h3.out hio.out hov.out hos.out).1
 replace HC := HC hp_i.out
 obtain ⟨e0, e1, e2, e3', e4'⟩ := hE
 go_upto_region 8 with (go_at_call 87; refine HC.mono ?_; clear HC; rintro en w4 ⟨rfl, hg⟩)
 obtain ⟨K4, h4, hc4, hm4⟩ := CS.roll (CM.graph h3.out hg) hc3 hm3
 clear e0 e1 e2 e3' e4'
 obtain ⟨os, az, hE, HC⟩ := (CM.op h4.out hio.out hov.out hos.out).2
 replace HC := HC hp_u.out
 obtain ⟨e0, e1, e2, e3', e4'⟩ := hE
 go_upto_region 9 with (go_at_call 87; refine HC.mono ?_; clear HC; rintro en w5 ⟨rfl, hg⟩)
 obtain ⟨K5, h5, hc5, hm5⟩ := CS.roll (CM.graph h4.out hg) hc4 hm4
 clear e0 e1 e2 e3' e4'
 have HC : Calls Try.prog 53 #[.pointer (some ⟨Q.c, 0, none⟩), .int .i64 x.1, .int .i64 i.1, .int .i64 a.pos] (w5) fun en w' => en = .returned (.tuple #[]) ∧ CS (w5) (Q.and w.heap.size) K5 (es) ops w' e3 := Same_ck (Q := Q.and w.heap.size) a.pos h5.out hp_e3.out
 have p4 := CM.cell (Q := Q.and w.heap.size) h1.out (Or.inr rfl) hc5.out P4.out
 have a1 := CM.cell (Q := Q.and w.heap.size) h1.out (Or.inl hFg.out) hc5.out Aa.out.2.1
 go_upto_region 10 with (go_at_call 53; refine HC.mono ?_; clear HC; rintro en w6 ⟨rfl, hg⟩)
 obtain ⟨K6, h6, hc6, hm6⟩ := CS.roll hg hc5 hm5
 clear p4 a1
 have HC := h6.out.ge0.Open hp_r.out
 go_upto_region 11 with (go_at_call 50; refine HC.mono ?_; clear HC; rintro en w7 ⟨rfl, hg⟩)
 obtain ⟨K7, h7, hc7, hm7⟩ := CS.roll (CM.graph h6.out hg) hc6 hm6
 have hqs := hid (al_ch w7 (.cells #[str T.name] 9))
 have hx7 := hid (h7.out.quiet hqs.out)
 have HC := hx7.out.ge.PutRow (one_sv w7 T.name) (fun k hk ho => by have := h7.out.lt (.inl ho); obtain rfl : w7.heap.size = k := Option.some.inj hk; omega) hp_s.out
 have p2 := CM.cell (Q := Q.and w.heap.size) h1.out (Or.inr rfl) hc7.out P2.out
 go_upto_region 12 with (go_at_call 35; refine HC.mono ?_; clear HC; rintro en w8 ⟨rfl, hg⟩)
 obtain ⟨K8, h8, hc8, hm8⟩ := CM.graph hx7.out hg
 clear p2 hx7
 replace hm8 := (hm7.out.two (fun k hk => (hm8 k hk).imp id (fun h => Nat.le_trans hqs.out.size h)) hc7.out.size)
 replace hc8 := hid (hc7.out.two ((hqs.out.mono (fun _ h => h.elim)).two hc8 (fun _ h => .inl h)) hm7.out)
 replace hm8 := hid hm8
 replace h8 := hid h8
 clear hqs
 have HC : Calls Try.prog 85 #[.pointer (some ⟨Q.c, 0, none⟩), .int .i64 row, .int .i64 s.1, .int .i64 T.pos] (w8) fun en w' => en = .returned (.tuple #[]) ∧ CS (w8) (Q.and w.heap.size) K8 (es) ops w' e4 := Row_ck (Q := Q.and w.heap.size) T.pos h8.out hp_e4.out
 have p1 := CM.cell (Q := Q.and w.heap.size) h1.out (Or.inr rfl) hc8.out P1.out
 go_wp2_with (go_at_call 85; refine HC.mono ?_; clear HC; rintro en w9 ⟨rfl, hg⟩)
 go_ret
 exact ⟨rfl, CS.pre hq.out (CS.back (CS.after hc8.out hm8.out hg))⟩
end
end Go.Proofs.Ytejciampbnfbhaa

namespace Go.Proofs.Ytejciampbnfbhaa
open Go.RowKit Ie
theorem nodup_len {α : Type} [DecidableEq α] : ∀ {l m : List α}, l.Nodup → (∀ x ∈ l, x ∈ m) → l.length ≤ m.length
 | [], m, _, _ => Nat.zero_le _
 | x :: l, m, hn, hs => by
  obtain ⟨h1, h2⟩ := List.nodup_cons.1 hn
  have hx := hs x (by simp)
  have h3 := nodup_len (m := m.erase x) h2 fun y hy => (List.mem_erase_of_ne (fun e => h1 (by rw [← e]; exact hy))).2 (hs y (by simp [hy]))
  have h4 := List.length_erase_of_mem hx
  have h5 := List.length_pos_of_mem hx
  simp only [List.length_cons]
  omega
theorem NamOK.opnd {w : World} {O : Nat → Prop} {x : List UInt8} {t : Int} : NamOK w O (opnd x t, .map none, .map none) := ⟨⟨_, rfl⟩, ⟨_, rfl⟩, fun h => by cases h⟩
theorem ops_len {ops : List Opr} {l : List Sy.Tr} (hall : ∀ t ∈ l, ops.any (fun o => o.name == t.name) = true) (hnd : (l.map (·.name)).Nodup) : l.length ≤ ops.length := by
 have h := nodup_len (m := ops.map (·.name)) hnd fun x hx => by
  obtain ⟨t, ht, rfl⟩ := List.mem_map.1 hx
  obtain ⟨o, ho, h2⟩ := List.any_eq_true.1 (hall t ht)
  rw [← beq_iff_eq.1 h2]
  exact List.mem_map_of_mem ho
 simpa using h
theorem Kids.sl {w : World} {F : Nat → Prop} {v : Value} {l : List Sy.Tr} (h : Kids w F v l) : ∃ a n c, v = .slice a n c := by
 cases h with
 | nil => exact ⟨_, _, _, rfl⟩
 | row g c kids ks hg h0 hc hcell hk => exact ⟨_, _, _, rfl⟩
theorem CM.less {w : World} {Q : Cc} {K : Ck} {es : Env} {ops : List Opr} {e : E} {n : Nat} (h : CM w (Q.and n) K es ops e) : CM w Q K es ops e := ⟨h.blk, h.ge, h.env, h.nc, h.ne, h.nam, h.ops, fun k hk => h.tf k (.inl hk)⟩
theorem clauses_cons {f : Nat} {ops : List Opr} {X : List En → E → Sy.Tr → Int → Option (Int × E)} {env : List En} {sh : Bool} {t b row inner : Int} {k : Sy.Tr} {r : List Sy.Tr} {e e' : E} (h : clausesE f ops X env sh t b row inner (k :: r) e = some e') :
  ∃ o y z c l i u p s q e3, ops.find? (fun o => o.name == k.name) = some o ∧ k.kids = y :: z :: c :: l ∧ of o.ti e = some i ∧ of o.to i.2 = some u ∧ u.2.put 6 u.1 b row = some p ∧ (if sh then p.2.put 6 u.1 t inner else some p) = some s ∧ X (env ++ [opnd y.name i.1, opnd z.name s.1]) s.2 c row = some q ∧ samE f q.2 q.1 b = some e3 ∧ clausesE f ops X env sh t b row inner r e3 = some e' := by
 unfold clausesE at h
 split at h
 ·rename_i o y z c l ho hk
  obtain ⟨i, hi, h⟩ := Option.bind_eq_some_iff.1 h
  obtain ⟨u, hu, h⟩ := Option.bind_eq_some_iff.1 h
  obtain ⟨p, hp, h⟩ := Option.bind_eq_some_iff.1 h
  obtain ⟨s, hs, h⟩ := Option.bind_eq_some_iff.1 h
  obtain ⟨q, hq, h⟩ := Option.bind_eq_some_iff.1 h
  obtain ⟨e3, h3, h⟩ := Option.bind_eq_some_iff.1 h
  exact ⟨o, y, z, c, l, i, u, p, s, q, e3, ho, hk, hi, hu, hp, hs, hq, h3, h⟩
 ·cases h
end Go.Proofs.Ytejciampbnfbhaa
