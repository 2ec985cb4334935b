import Derived.Test.YtejciampbnfbhaaMJp
set_option linter.unusedVariables false
set_option linter.unusedSimpArgs false
set_option maxRecDepth 100000
set_option maxHeartbeats 1600000
namespace Go.Proofs.Ytejciampbnfbhaa
open Go.RowKit Ie
section
variable {w : World} {Q : Cc} {K : Ck} {es : Env} {ops : List Opr} {e e' : E} {T : Sy.Tr} {v : Value} {row m : Int}
theorem Expr_fn {f k : Nat} (ih : InfOK f ops k) {a : Sy.Tr} {l : List Sy.Tr} (h : CM w Q K es ops e) (hl : es.length + 2 * (k + 1) < 1000000) (hv : Kids w Q.F v T.kids) (hk : T.kind = 7) (hks : T.kids = a :: l) (hp : ((e.var).bind fun v => (v.2.opn).bind fun r => (exprE f ops k (es.map (·.1) ++ [plain T.name v.1]) r.2 a r.1).bind fun b => b.2.put 6 v.1 b.1 r.1) = some (m, e')) :
  Calls Try.prog 36 #[.pointer (some ⟨Q.c, 0, none⟩), nodeV T v, .int .i64 row] w fun en w' => en = .returned (.int .i64 m) ∧ CS w Q K es ops w' e' := by
 obtain ⟨p, hp1, hp2⟩ := Option.bind_eq_some_iff.1 hp
 obtain ⟨r, hp3, hp4⟩ := Option.bind_eq_some_iff.1 hp2
 obtain ⟨b, hp5, hp6⟩ := Option.bind_eq_some_iff.1 hp4
 rw [hks] at hv
 obtain ⟨g, cp, hvv, hFg, hn⟩ := hv.cons (by simp)
 simp only [List.length_cons] at hvv
 subst hvv
 have j0 : (0 : Int) < (l.length : Int) + 1 := by omega
 obtain ⟨va, ⟨a0, a1, a2, a3, a4⟩, hka⟩ := hn 0 a rfl
 have hb := World.alloc_heap_new w (nodeB T (.slice (some ⟨g, 0, none⟩) (l.length + 1) cp))
 have hq := hid (al_ch w (nodeB T (.slice (some ⟨g, 0, none⟩) (l.length + 1) cp)))
 have h1 := hid (h.box (T := T) (v := .slice (some ⟨g, 0, none⟩) (l.length + 1) cp))
 obtain ⟨p0, -, p2, -, p4⟩ := node_cells hb
 rw [hk] at p0
 have c0 := h1.out.c0
 have HO := h1.out.ok0
 have HV := h1.out.ge0.Var hp1
 have hka1 := hid (Kids.and (n := w.heap.size) (hka.quiet hq.out))
 have a0 := cell_keeps hq.out a0
 have a1 := cell_keeps hq.out a1
 have a2 := cell_keeps hq.out a2
 have a3 := cell_keeps hq.out a3
 have a4 := cell_keeps hq.out a4
 replace hFg := hid hFg
 replace hp3 := hid hp3
 replace hp5 := hid hp5
 replace hp6 := hid hp6
 clear hb hk hks hp hp1 hp2 hp4 h hv hn hka
 go_enter Try.func36, Try.ntmps36
 go_upto_region 24 with (first | (go_at_call 26; refine HO.mono ?_; clear HO; rintro en w1 ⟨rfl, hw1⟩; obtain rfl := hw1.symm) | (go_at_call 51; refine HV.mono ?_; clear HV; rintro en w2 ⟨rfl, hg⟩))
 obtain ⟨K2, h2, hc2, hm2⟩ := CM.graph h1.out hg
 clear hg
 have HR := h2.ge0.Open hp3.out
 go_upto_region 25 with (go_at_call 50; refine HR.mono ?_; clear HR; rintro en w3 ⟨rfl, hg⟩)
 obtain ⟨K3, h3, hc3, hm3⟩ := CM.graph h2 hg
 clear hg
 have hch3 := hc2.two hc3 hm2
 have p2 := CM.cell (Q := Q.and w.heap.size) h1.out (Or.inr rfl) hch3 p2
 have HW : Calls Try.prog 31 #[.pointer (some ⟨Q.c, 0, none⟩), .agg #[str T.name, .int .i64 p.1, .bool false, .map none, .map none, .bool false]] w3 fun en w' => en = .returned (.tuple #[]) ∧ CS w3 (Q.and w.heap.size) K3 (es ++ [(plain T.name p.1, .map none, .map none)]) ops w' r.2 := With_any (Q := Q.and w.heap.size) h3 (by omega) NamOK.plain
 replace h1 := hid h1.out
 replace h2 := hid h2
 replace h3 := hid h3
 replace hc2 := hid hc2
 replace hm2 := hid hm2
 replace hc3 := hid hc3
 replace hm3 := hid hm3
 replace hch3 := hid hch3
 go_upto_region 26 with (go_at_call 31; refine HW.mono ?_; clear HW; rintro en w4 ⟨rfl, hg⟩)
 obtain ⟨K4, h4, hc4, hm4⟩ := hg
 have hm23 := hm2.out.two hm3.out hc2.out.size
 have hch4 := hch3.out.two hc4 hm23
 have p4 := CM.cell (Q := Q.and w.heap.size) h1.out (Or.inr rfl) hch4 p4
 have a0 := CM.cell (Q := Q.and w.heap.size) h1.out (Or.inl hFg.out) hch4 a0
 have a1 := CM.cell (Q := Q.and w.heap.size) h1.out (Or.inl hFg.out) hch4 a1
 have a2 := CM.cell (Q := Q.and w.heap.size) h1.out (Or.inl hFg.out) hch4 a2
 have a3 := CM.cell (Q := Q.and w.heap.size) h1.out (Or.inl hFg.out) hch4 a3
 have a4 := CM.cell (Q := Q.and w.heap.size) h1.out (Or.inl hFg.out) hch4 a4
 have HE : Calls Try.prog 36 #[.pointer (some ⟨Q.c, 0, none⟩), nodeV a va, .int .i64 r.1] w4 fun en w' => en = .returned (.int .i64 b.1) ∧ CS w4 (Q.and w.heap.size) K4 (es ++ [(plain T.name p.1, .map none, .map none)]) ops w' b.2 := ih (Q := Q.and w.heap.size) h4 (by simp; omega) (CM.kids (Q := Q.and w.heap.size) h1.out hka1.out hch4) (by simpa using hp5.out)
 replace h4 := hid h4
 replace hc4 := hid hc4
 replace hm4 := hid hm4
 replace hch4 := hid hch4
 replace hm23 := hid hm23
 go_upto_region 27 with (go_at_call 36; refine HE.mono ?_; clear HE; rintro en w5 ⟨rfl, hg⟩)
 obtain ⟨K5, h5, hc5, hm5⟩ := hg
 have HX : Calls Try.prog 52 #[.pointer (some ⟨Q.c, 0, none⟩), .int .i64 1] w5 fun en w' => en = .returned (.tuple #[]) ∧ CS w5 (Q.and w.heap.size) K5 es ops w' b.2 := Out_any (Q := Q.and w.heap.size) (es := es) (xs := [(plain T.name p.1, .map none, .map none)]) h5 (by simp; omega) (by simp)
 replace h5 := hid h5
 replace hc5 := hid hc5
 replace hm5 := hid hm5
 go_upto_region 28 with (go_at_call 52; refine HX.mono ?_; clear HX; rintro en w6 ⟨rfl, hg⟩)
 obtain ⟨K6, h6, hc6, hm6⟩ := hg
 have HP := h6.ge0.Put hp6.out
 replace h6 := hid h6
 replace hc6 := hid hc6
 replace hm6 := hid hm6
 go_wp2_with (go_at_call 63; refine HP.mono ?_; clear HP; rintro en w7 ⟨rfl, hg⟩)
 go_ret
 exact ⟨rfl, CS.pre hq.out (CS.back (CS.after hc2.out hm2.out (CS.after hc3.out hm3.out (CS.after hc4.out hm4.out (CS.after hc5.out hm5.out (CS.after hc6.out hm6.out (CM.graph h6.out hg)))))))⟩
end
end Go.Proofs.Ytejciampbnfbhaa

namespace Go.Proofs.Ytejciampbnfbhaa
open Go.RowKit Ie
section
variable {w : World} {Q : Cc} {K : Ck} {es : Env} {ops : List Opr} {e e' : E} {T : Sy.Tr} {v : Value} {row m : Int}
theorem Expr_seq {f k : Nat} (ih : InfOK f ops k) {a b : Sy.Tr} {l : List Sy.Tr} (h : CM w Q K es ops e) (hl : es.length + 2 * (k + 1) < 1000000) (hv : Kids w Q.F v T.kids) (hk : T.kind = 10) (hks : T.kids = a :: b :: l) (hp : ((exprE f ops k (es.map (·.1)) e a row).bind fun x => exprE f ops k (es.map (·.1)) x.2 b row) = some (m, e')) :
  Calls Try.prog 36 #[.pointer (some ⟨Q.c, 0, none⟩), nodeV T v, .int .i64 row] w fun en w' => en = .returned (.int .i64 m) ∧ CS w Q K es ops w' e' := by
 obtain ⟨p, hp1, hp2⟩ := Option.bind_eq_some_iff.1 hp
 rw [hks] at hv
 obtain ⟨g, cp, hvv, hFg, hn⟩ := hv.cons (by simp)
 simp only [List.length_cons] at hvv
 subst hvv
 have j0 : (0 : Int) < (l.length : Int) + 1 + 1 := by omega
 have j1 : (1 : Int) < (l.length : Int) + 1 + 1 := by omega
 obtain ⟨va, ⟨a0, a1, a2, a3, a4⟩, hka⟩ := hn 0 a rfl
 obtain ⟨vb, ⟨b0, b1, b2, b3, b4⟩, hkb⟩ := hn 1 b rfl
 have hb := World.alloc_heap_new w (nodeB T (.slice (some ⟨g, 0, none⟩) (l.length + 1 + 1) cp))
 have hq := hid (al_ch w (nodeB T (.slice (some ⟨g, 0, none⟩) (l.length + 1 + 1) cp)))
 have h1 := hid (h.box (T := T) (v := .slice (some ⟨g, 0, none⟩) (l.length + 1 + 1) cp))
 obtain ⟨p0, -, -, -, p4⟩ := node_cells hb
 rw [hk] at p0
 have c0 := h1.out.c0
 have HO := h1.out.ok0
 have hka1 := hid (Kids.and (n := w.heap.size) (hka.quiet hq.out))
 have hkb1 := hid (Kids.and (n := w.heap.size) (hkb.quiet hq.out))
 have a0 := cell_keeps hq.out a0
 have a1 := cell_keeps hq.out a1
 have a2 := cell_keeps hq.out a2
 have a3 := cell_keeps hq.out a3
 have a4 := cell_keeps hq.out a4
 have b0 := cell_keeps hq.out b0
 have b1 := cell_keeps hq.out b1
 have b2 := cell_keeps hq.out b2
 have b3 := cell_keeps hq.out b3
 have b4 := cell_keeps hq.out b4
 have HE : Calls Try.prog 36 #[.pointer (some ⟨Q.c, 0, none⟩), nodeV a va, .int .i64 row] (w.alloc (nodeB T (.slice (some ⟨g, 0, none⟩) (l.length + 1 + 1) cp))) fun en w' => en = .returned (.int .i64 p.1) ∧ CS (w.alloc (nodeB T (.slice (some ⟨g, 0, none⟩) (l.length + 1 + 1) cp))) (Q.and w.heap.size) K es ops w' p.2 := ih (Q := Q.and w.heap.size) h1.out (by omega) hka1.out hp1
 replace hFg := hid hFg
 have hp3 := hid hp2
 clear hp2
 clear hb hk hks hp hp1 h hv hn hka hkb
 go_enter Try.func36, Try.ntmps36
 go_upto_region 35 with (first | (go_at_call 26; refine HO.mono ?_; clear HO; rintro en w1 ⟨rfl, hw1⟩; obtain rfl := hw1.symm) | (go_at_call 36; refine HE.mono ?_; clear HE; rintro en w2 ⟨rfl, hg⟩))
 obtain ⟨K2, h2, hc2, hm2⟩ := hg
 have p4 := CM.cell (Q := Q.and w.heap.size) h1.out (Or.inr rfl) hc2 p4
 have b0 := CM.cell (Q := Q.and w.heap.size) h1.out (Or.inl hFg.out) hc2 b0
 have b1 := CM.cell (Q := Q.and w.heap.size) h1.out (Or.inl hFg.out) hc2 b1
 have b2 := CM.cell (Q := Q.and w.heap.size) h1.out (Or.inl hFg.out) hc2 b2
 have b3 := CM.cell (Q := Q.and w.heap.size) h1.out (Or.inl hFg.out) hc2 b3
 have b4 := CM.cell (Q := Q.and w.heap.size) h1.out (Or.inl hFg.out) hc2 b4
 have HF : Calls Try.prog 36 #[.pointer (some ⟨Q.c, 0, none⟩), nodeV b vb, .int .i64 row] w2 fun en w' => en = .returned (.int .i64 (m, e').1) ∧ CS w2 (Q.and w.heap.size) K2 es ops w' (m, e').2 := ih (Q := Q.and w.heap.size) h2 (by omega) (CM.kids (Q := Q.and w.heap.size) h1.out hkb1.out hc2) hp3.out
 replace h2 := hid h2
 replace hc2 := hid hc2
 replace hm2 := hid hm2
 go_wp2_with (go_at_call 36; refine HF.mono ?_; clear HF; rintro en w3 ⟨rfl, hg⟩)
 go_ret
 exact ⟨rfl, CS.pre hq.out (CS.back (CS.after hc2.out hm2.out hg))⟩
theorem Expr_pair {f k : Nat} (ih : InfOK f ops k) {a b : Sy.Tr} {l : List Sy.Tr} (h : CM w Q K es ops e) (hl : es.length + 2 * (k + 1) < 1000000) (hv : Kids w Q.F v T.kids) (hk : T.kind = 12) (hks : T.kids = a :: b :: l) (hp : ((exprE f ops k (es.map (·.1)) e a row).bind fun x => (exprE f ops k (es.map (·.1)) x.2 b row).bind fun y => y.2.put 5 x.1 y.1 0) = some (m, e')) :
  Calls Try.prog 36 #[.pointer (some ⟨Q.c, 0, none⟩), nodeV T v, .int .i64 row] w fun en w' => en = .returned (.int .i64 m) ∧ CS w Q K es ops w' e' := by
 obtain ⟨p, hp1, hp2⟩ := Option.bind_eq_some_iff.1 hp
 obtain ⟨q, hp3, hp4⟩ := Option.bind_eq_some_iff.1 hp2
 rw [hks] at hv
 obtain ⟨g, cp, hvv, hFg, hn⟩ := hv.cons (by simp)
 simp only [List.length_cons] at hvv
 subst hvv
 have j0 : (0 : Int) < (l.length : Int) + 1 + 1 := by omega
 have j1 : (1 : Int) < (l.length : Int) + 1 + 1 := by omega
 obtain ⟨va, ⟨a0, a1, a2, a3, a4⟩, hka⟩ := hn 0 a rfl
 obtain ⟨vb, ⟨b0, b1, b2, b3, b4⟩, hkb⟩ := hn 1 b rfl
 have hb := World.alloc_heap_new w (nodeB T (.slice (some ⟨g, 0, none⟩) (l.length + 1 + 1) cp))
 have hq := hid (al_ch w (nodeB T (.slice (some ⟨g, 0, none⟩) (l.length + 1 + 1) cp)))
 have h1 := hid (h.box (T := T) (v := .slice (some ⟨g, 0, none⟩) (l.length + 1 + 1) cp))
 obtain ⟨p0, -, -, -, p4⟩ := node_cells hb
 rw [hk] at p0
 have c0 := h1.out.c0
 have HO := h1.out.ok0
 have hka1 := hid (Kids.and (n := w.heap.size) (hka.quiet hq.out))
 have hkb1 := hid (Kids.and (n := w.heap.size) (hkb.quiet hq.out))
 have a0 := cell_keeps hq.out a0
 have a1 := cell_keeps hq.out a1
 have a2 := cell_keeps hq.out a2
 have a3 := cell_keeps hq.out a3
 have a4 := cell_keeps hq.out a4
 have b0 := cell_keeps hq.out b0
 have b1 := cell_keeps hq.out b1
 have b2 := cell_keeps hq.out b2
 have b3 := cell_keeps hq.out b3
 have b4 := cell_keeps hq.out b4
 have HE : Calls Try.prog 36 #[.pointer (some ⟨Q.c, 0, none⟩), nodeV a va, .int .i64 row] (w.alloc (nodeB T (.slice (some ⟨g, 0, none⟩) (l.length + 1 + 1) cp))) fun en w' => en = .returned (.int .i64 p.1) ∧ CS (w.alloc (nodeB T (.slice (some ⟨g, 0, none⟩) (l.length + 1 + 1) cp))) (Q.and w.heap.size) K es ops w' p.2 := ih (Q := Q.and w.heap.size) h1.out (by omega) hka1.out hp1
 replace hFg := hid hFg
 replace hp3 := hid hp3
 replace hp4 := hid hp4
 clear hp2
 clear hb hk hks hp hp1 h hv hn hka hkb
 go_enter Try.func36, Try.ntmps36
 go_upto_region 46 with (first | (go_at_call 26; refine HO.mono ?_; clear HO; rintro en w1 ⟨rfl, hw1⟩; obtain rfl := hw1.symm) | (go_at_call 36; refine HE.mono ?_; clear HE; rintro en w2 ⟨rfl, hg⟩))
 obtain ⟨K2, h2, hc2, hm2⟩ := hg
 have p4 := CM.cell (Q := Q.and w.heap.size) h1.out (Or.inr rfl) hc2 p4
 have b0 := CM.cell (Q := Q.and w.heap.size) h1.out (Or.inl hFg.out) hc2 b0
 have b1 := CM.cell (Q := Q.and w.heap.size) h1.out (Or.inl hFg.out) hc2 b1
 have b2 := CM.cell (Q := Q.and w.heap.size) h1.out (Or.inl hFg.out) hc2 b2
 have b3 := CM.cell (Q := Q.and w.heap.size) h1.out (Or.inl hFg.out) hc2 b3
 have b4 := CM.cell (Q := Q.and w.heap.size) h1.out (Or.inl hFg.out) hc2 b4
 have HF : Calls Try.prog 36 #[.pointer (some ⟨Q.c, 0, none⟩), nodeV b vb, .int .i64 row] w2 fun en w' => en = .returned (.int .i64 q.1) ∧ CS w2 (Q.and w.heap.size) K2 es ops w' q.2 := ih (Q := Q.and w.heap.size) h2 (by omega) (CM.kids (Q := Q.and w.heap.size) h1.out hkb1.out hc2) hp3.out
 replace h2 := hid h2
 replace hc2 := hid hc2
 replace hm2 := hid hm2
 go_upto_region 47 with (go_at_call 36; refine HF.mono ?_; clear HF; rintro en w3 ⟨rfl, hg⟩)
 obtain ⟨K3, h3, hc3, hm3⟩ := hg
 have HP := h3.ge0.Put hp4.out
 replace h3 := hid h3
 replace hc3 := hid hc3
 replace hm3 := hid hm3
 go_wp2_with (go_at_call 63; refine HP.mono ?_; clear HP; rintro en w4 ⟨rfl, hg⟩)
 go_ret
 exact ⟨rfl, CS.pre hq.out (CS.back (CS.after hc2.out hm2.out (CS.after hc3.out hm3.out (CM.graph h3.out hg))))⟩
end
end Go.Proofs.Ytejciampbnfbhaa

namespace Go.Proofs.Ytejciampbnfbhaa
open Go.RowKit Ie
section
variable {w : World} {Q : Cc} {K : Ck} {es : Env} {ops : List Opr} {e e' : E} {T : Sy.Tr} {v : Value} {row m : Int}
theorem Expr_cons {f k : Nat} (ih : InfOK f ops k) {a b : Sy.Tr} {l : List Sy.Tr} (h : CM w Q K es ops e) (hl : es.length + 2 * (k + 1) < 1000000) (hv : Kids w Q.F v T.kids) (hk : T.kind = 16) (hks : T.kids = a :: b :: l) (hp : ((exprE f ops k (es.map (·.1)) e a row).bind fun x => (exprE f ops k (es.map (·.1)) x.2 b row).bind fun y => (y.2.put 4 x.1 (-1) 0).bind fun l => (samE f l.2 y.1 l.1).map fun e => (y.1, e)) = some (m, e')) :
  Calls Try.prog 36 #[.pointer (some ⟨Q.c, 0, none⟩), nodeV T v, .int .i64 row] w fun en w' => en = .returned (.int .i64 m) ∧ CS w Q K es ops w' e' := by
 obtain ⟨p, hp1, hp2⟩ := Option.bind_eq_some_iff.1 hp
 obtain ⟨q, hp3, hp4⟩ := Option.bind_eq_some_iff.1 hp2
 obtain ⟨u, hp5, hp6⟩ := Option.bind_eq_some_iff.1 hp4
 obtain ⟨e9, hp7, hp8⟩ := Option.map_eq_some_iff.1 hp6
 obtain ⟨rfl, rfl⟩ := Prod.mk.inj hp8
 rw [hks] at hv
 obtain ⟨g, cp, hvv, hFg, hn⟩ := hv.cons (by simp)
 simp only [List.length_cons] at hvv
 subst hvv
 have j0 : (0 : Int) < (l.length : Int) + 1 + 1 := by omega
 have j1 : (1 : Int) < (l.length : Int) + 1 + 1 := by omega
 obtain ⟨va, ⟨a0, a1, a2, a3, a4⟩, hka⟩ := hn 0 a rfl
 obtain ⟨vb, ⟨b0, b1, b2, b3, b4⟩, hkb⟩ := hn 1 b rfl
 have hb := World.alloc_heap_new w (nodeB T (.slice (some ⟨g, 0, none⟩) (l.length + 1 + 1) cp))
 have hq := hid (al_ch w (nodeB T (.slice (some ⟨g, 0, none⟩) (l.length + 1 + 1) cp)))
 have h1 := hid (h.box (T := T) (v := .slice (some ⟨g, 0, none⟩) (l.length + 1 + 1) cp))
 obtain ⟨p0, -, -, -, p4⟩ := node_cells hb
 rw [hk] at p0
 have c0 := h1.out.c0
 have HO := h1.out.ok0
 have hka1 := hid (Kids.and (n := w.heap.size) (hka.quiet hq.out))
 have hkb1 := hid (Kids.and (n := w.heap.size) (hkb.quiet hq.out))
 have a0 := cell_keeps hq.out a0
 have a1 := cell_keeps hq.out a1
 have a2 := cell_keeps hq.out a2
 have a3 := cell_keeps hq.out a3
 have a4 := cell_keeps hq.out a4
 have b0 := cell_keeps hq.out b0
 have b1 := cell_keeps hq.out b1
 have b2 := cell_keeps hq.out b2
 have b3 := cell_keeps hq.out b3
 have b4 := cell_keeps hq.out b4
 have HE : Calls Try.prog 36 #[.pointer (some ⟨Q.c, 0, none⟩), nodeV a va, .int .i64 row] (w.alloc (nodeB T (.slice (some ⟨g, 0, none⟩) (l.length + 1 + 1) cp))) fun en w' => en = .returned (.int .i64 p.1) ∧ CS (w.alloc (nodeB T (.slice (some ⟨g, 0, none⟩) (l.length + 1 + 1) cp))) (Q.and w.heap.size) K es ops w' p.2 := ih (Q := Q.and w.heap.size) h1.out (by omega) hka1.out hp1
 replace hFg := hid hFg
 replace hp3 := hid hp3
 replace hp5 := hid hp5
 replace hp7 := hid hp7
 clear hp2 hp4 hp6 hp8
 clear hb hk hks hp hp1 h hv hn hka hkb
 go_enter Try.func36, Try.ntmps36
 go_upto_region 60 with (first | (go_at_call 26; refine HO.mono ?_; clear HO; rintro en w1 ⟨rfl, hw1⟩; obtain rfl := hw1.symm) | (go_at_call 36; refine HE.mono ?_; clear HE; rintro en w2 ⟨rfl, hg⟩))
 obtain ⟨K2, h2, hc2, hm2⟩ := hg
 have p4 := CM.cell (Q := Q.and w.heap.size) h1.out (Or.inr rfl) hc2 p4
 have b0 := CM.cell (Q := Q.and w.heap.size) h1.out (Or.inl hFg.out) hc2 b0
 have b1 := CM.cell (Q := Q.and w.heap.size) h1.out (Or.inl hFg.out) hc2 b1
 have b2 := CM.cell (Q := Q.and w.heap.size) h1.out (Or.inl hFg.out) hc2 b2
 have b3 := CM.cell (Q := Q.and w.heap.size) h1.out (Or.inl hFg.out) hc2 b3
 have b4 := CM.cell (Q := Q.and w.heap.size) h1.out (Or.inl hFg.out) hc2 b4
 have HF : Calls Try.prog 36 #[.pointer (some ⟨Q.c, 0, none⟩), nodeV b vb, .int .i64 row] w2 fun en w' => en = .returned (.int .i64 q.1) ∧ CS w2 (Q.and w.heap.size) K2 es ops w' q.2 := ih (Q := Q.and w.heap.size) h2 (by omega) (CM.kids (Q := Q.and w.heap.size) h1.out hkb1.out hc2) hp3.out
 replace h2 := hid h2
 replace hc2 := hid hc2
 replace hm2 := hid hm2
 go_upto_region 61 with (go_at_call 36; refine HF.mono ?_; clear HF; rintro en w3 ⟨rfl, hg⟩)
 obtain ⟨K3, h3, hc3, hm3⟩ := hg
 have HP := h3.ge0.Put hp5.out
 replace h3 := hid h3
 replace hc3 := hid hc3
 replace hm3 := hid hm3
 go_upto_region 62 with (go_at_call 63; refine HP.mono ?_; clear HP; rintro en w4 ⟨rfl, hg⟩)
 obtain ⟨K4, h4, hc4, hm4⟩ := CM.graph h3.out hg
 have hc34 := hc3.out.two hc4 hm3.out
 have p4 := CM.cell (Q := Q.and w.heap.size) h2.out (Or.inr rfl) hc34 p4
 have b1 := CM.cell (Q := Q.and w.heap.size) h2.out (Or.inl hFg.out) hc34 b1
 clear b0 b2 b3 b4 hc34
 have HS : Calls Try.prog 53 #[.pointer (some ⟨Q.c, 0, none⟩), .int .i64 q.1, .int .i64 u.1, .int .i64 b.pos] w4 fun en w' => en = .returned (.tuple #[]) ∧ CS w4 (Q.and w.heap.size) K4 es ops w' e9 := Same_ck (Q := Q.and w.heap.size) b.pos h4 hp7.out
 replace h4 := hid h4
 replace hc4 := hid hc4
 replace hm4 := hid hm4
 go_wp2_with (go_at_call 53; refine HS.mono ?_; clear HS; rintro en w5 ⟨rfl, hg⟩)
 go_ret
 exact ⟨rfl, CS.pre hq.out (CS.back (CS.after hc2.out hm2.out (CS.after hc3.out hm3.out (CS.after hc4.out hm4.out hg))))⟩
end
end Go.Proofs.Ytejciampbnfbhaa

namespace Go.Proofs.Ytejciampbnfbhaa
open Go.RowKit Ie
section
variable {w : World} {Q : Cc} {K : Ck} {es : Env} {ops : List Opr} {e e' : E} {T : Sy.Tr} {v : Value} {row m : Int}
theorem Expr_fst {f k : Nat} (ih : InfOK f ops k) {a : Sy.Tr} {l : List Sy.Tr} (h : CM w Q K es ops e) (hl : es.length + 2 * (k + 1) < 1000000) (hv : Kids w Q.F v T.kids) (hk : T.kind = 13) (hks : T.kids = a :: l) (hp : ((exprE f ops k (es.map (·.1)) e a row).bind fun x => (x.2.var).bind fun u => (u.2.var).bind fun v => (v.2.put 5 u.1 v.1 0).bind fun p => (samE f p.2 x.1 p.1).map fun e => (u.1, e)) = some (m, e')) :
  Calls Try.prog 36 #[.pointer (some ⟨Q.c, 0, none⟩), nodeV T v, .int .i64 row] w fun en w' => en = .returned (.int .i64 m) ∧ CS w Q K es ops w' e' := by
 obtain ⟨p, hp1, hp2⟩ := Option.bind_eq_some_iff.1 hp
 obtain ⟨u, hp3, hp4⟩ := Option.bind_eq_some_iff.1 hp2
 obtain ⟨z, hp5, hp6⟩ := Option.bind_eq_some_iff.1 hp4
 obtain ⟨q, hp7, hp8⟩ := Option.bind_eq_some_iff.1 hp6
 obtain ⟨e9, hp9, hp10⟩ := Option.map_eq_some_iff.1 hp8
 obtain ⟨rfl, rfl⟩ := Prod.mk.inj hp10
 rw [hks] at hv
 obtain ⟨g, cp, hvv, hFg, hn⟩ := hv.cons (by simp)
 simp only [List.length_cons] at hvv
 subst hvv
 have j0 : (0 : Int) < (l.length : Int) + 1 := by omega
 obtain ⟨va, ⟨a0, a1, a2, a3, a4⟩, hka⟩ := hn 0 a rfl
 have hb := World.alloc_heap_new w (nodeB T (.slice (some ⟨g, 0, none⟩) (l.length + 1) cp))
 have hq := hid (al_ch w (nodeB T (.slice (some ⟨g, 0, none⟩) (l.length + 1) cp)))
 have h1 := hid (h.box (T := T) (v := .slice (some ⟨g, 0, none⟩) (l.length + 1) cp))
 obtain ⟨p0, -, -, -, p4⟩ := node_cells hb
 rw [hk] at p0
 have c0 := h1.out.c0
 have HO := h1.out.ok0
 have hka1 := hid (Kids.and (n := w.heap.size) (hka.quiet hq.out))
 have a0 := cell_keeps hq.out a0
 have a1 := cell_keeps hq.out a1
 have a2 := cell_keeps hq.out a2
 have a3 := cell_keeps hq.out a3
 have a4 := cell_keeps hq.out a4
 have HE : Calls Try.prog 36 #[.pointer (some ⟨Q.c, 0, none⟩), nodeV a va, .int .i64 row] (w.alloc (nodeB T (.slice (some ⟨g, 0, none⟩) (l.length + 1) cp))) fun en w' => en = .returned (.int .i64 p.1) ∧ CS (w.alloc (nodeB T (.slice (some ⟨g, 0, none⟩) (l.length + 1) cp))) (Q.and w.heap.size) K es ops w' p.2 := ih (Q := Q.and w.heap.size) h1.out (by omega) hka1.out hp1
 replace hFg := hid hFg
 replace hp3 := hid hp3
 replace hp5 := hid hp5
 replace hp7 := hid hp7
 replace hp9 := hid hp9
 clear hb hk hks hp hp1 hp2 hp4 hp6 hp8 hp10 h hv hn hka
 go_enter Try.func36, Try.ntmps36
 go_upto_region 51 with (first | (go_at_call 26; refine HO.mono ?_; clear HO; rintro en w1 ⟨rfl, hw1⟩; obtain rfl := hw1.symm) | (go_at_call 36; refine HE.mono ?_; clear HE; rintro en w2 ⟨rfl, hg⟩))
 obtain ⟨K2, h2, hc2, hm2⟩ := hg
 have q0 := CM.cell (Q := Q.and w.heap.size) h1.out (Or.inr rfl) hc2 p0
 have p4 := CM.cell (Q := Q.and w.heap.size) h1.out (Or.inr rfl) hc2 p4
 have b1 := CM.cell (Q := Q.and w.heap.size) h1.out (Or.inl hFg.out) hc2 a1
 clear a0 a1 a2 a3 a4 p0
 have HV := h2.ge0.Var hp3.out
 replace h2 := hid h2
 replace hc2 := hid hc2
 replace hm2 := hid hm2
 go_upto_region 52 with (go_at_call 51; refine HV.mono ?_; clear HV; rintro en w3 ⟨rfl, hg⟩)
 obtain ⟨K3, h3, hc3, hm3⟩ := CM.graph h2.out hg
 clear hg
 have HV := h3.ge0.Var hp5.out
 replace h3 := hid h3
 replace hc3 := hid hc3
 replace hm3 := hid hm3
 go_upto_region 53 with (go_at_call 51; refine HV.mono ?_; clear HV; rintro en w4 ⟨rfl, hg⟩)
 obtain ⟨K4, h4, hc4, hm4⟩ := CM.graph h3.out hg
 clear hg
 have HP := h4.ge0.Put hp7.out
 replace h4 := hid h4
 replace hc4 := hid hc4
 replace hm4 := hid hm4
 go_upto_region 54 with (go_at_call 63; refine HP.mono ?_; clear HP; rintro en w5 ⟨rfl, hg⟩)
 obtain ⟨K5, h5, hc5, hm5⟩ := CM.graph h4.out hg
 clear hg
 have hx := (hc3.out.two hc4.out hm3.out).two hc5 (hm3.out.two hm4.out hc3.out.size)
 have hxm := (hm3.out.two hm4.out hc3.out.size).two hm5 (hc3.out.two hc4.out hm3.out).size
 have q0 := CM.cell (Q := Q.and w.heap.size) h2.out (Or.inr rfl) hx q0
 have p4 := CM.cell (Q := Q.and w.heap.size) h2.out (Or.inr rfl) hx p4
 have b1 := CM.cell (Q := Q.and w.heap.size) h2.out (Or.inl hFg.out) hx b1
 have HS : Calls Try.prog 53 #[.pointer (some ⟨Q.c, 0, none⟩), .int .i64 p.1, .int .i64 q.1, .int .i64 a.pos] w5 fun en w' => en = .returned (.tuple #[]) ∧ CS w5 (Q.and w.heap.size) K5 es ops w' e9 := Same_ck (Q := Q.and w.heap.size) a.pos h5 hp9.out
 replace h5 := hid h5
 replace hc5 := hid hc5
 replace hm5 := hid hm5
 replace hx := hid hx
 replace hxm := hid hxm
 go_upto_region 55 with (go_at_call 53; refine HS.mono ?_; clear HS; rintro en w6 ⟨rfl, hg⟩)
 obtain ⟨K6, h6, hc6, hm6⟩ := hg
 have q0 := CM.cell (Q := Q.and w.heap.size) h5.out (Or.inr rfl) hc6 q0
 clear p4 b1
 replace h6 := hid h6
 replace hc6 := hid hc6
 replace hm6 := hid hm6
 go_wp2_with fail
 go_ret
 exact ⟨rfl, CS.pre hq.out (CS.back (CS.after hc2.out hm2.out (CS.after hx.out hxm.out ⟨K6, h6.out, hc6.out, hm6.out⟩)))⟩
theorem Expr_snd {f k : Nat} (ih : InfOK f ops k) {a : Sy.Tr} {l : List Sy.Tr} (h : CM w Q K es ops e) (hl : es.length + 2 * (k + 1) < 1000000) (hv : Kids w Q.F v T.kids) (hk : T.kind = 14) (hks : T.kids = a :: l) (hp : ((exprE f ops k (es.map (·.1)) e a row).bind fun x => (x.2.var).bind fun u => (u.2.var).bind fun v => (v.2.put 5 u.1 v.1 0).bind fun p => (samE f p.2 x.1 p.1).map fun e => (v.1, e)) = some (m, e')) :
  Calls Try.prog 36 #[.pointer (some ⟨Q.c, 0, none⟩), nodeV T v, .int .i64 row] w fun en w' => en = .returned (.int .i64 m) ∧ CS w Q K es ops w' e' := by
 obtain ⟨p, hp1, hp2⟩ := Option.bind_eq_some_iff.1 hp
 obtain ⟨u, hp3, hp4⟩ := Option.bind_eq_some_iff.1 hp2
 obtain ⟨z, hp5, hp6⟩ := Option.bind_eq_some_iff.1 hp4
 obtain ⟨q, hp7, hp8⟩ := Option.bind_eq_some_iff.1 hp6
 obtain ⟨e9, hp9, hp10⟩ := Option.map_eq_some_iff.1 hp8
 obtain ⟨rfl, rfl⟩ := Prod.mk.inj hp10
 rw [hks] at hv
 obtain ⟨g, cp, hvv, hFg, hn⟩ := hv.cons (by simp)
 simp only [List.length_cons] at hvv
 subst hvv
 have j0 : (0 : Int) < (l.length : Int) + 1 := by omega
 obtain ⟨va, ⟨a0, a1, a2, a3, a4⟩, hka⟩ := hn 0 a rfl
 have hb := World.alloc_heap_new w (nodeB T (.slice (some ⟨g, 0, none⟩) (l.length + 1) cp))
 have hq := hid (al_ch w (nodeB T (.slice (some ⟨g, 0, none⟩) (l.length + 1) cp)))
 have h1 := hid (h.box (T := T) (v := .slice (some ⟨g, 0, none⟩) (l.length + 1) cp))
 obtain ⟨p0, -, -, -, p4⟩ := node_cells hb
 rw [hk] at p0
 have c0 := h1.out.c0
 have HO := h1.out.ok0
 have hka1 := hid (Kids.and (n := w.heap.size) (hka.quiet hq.out))
 have a0 := cell_keeps hq.out a0
 have a1 := cell_keeps hq.out a1
 have a2 := cell_keeps hq.out a2
 have a3 := cell_keeps hq.out a3
 have a4 := cell_keeps hq.out a4
 have HE : Calls Try.prog 36 #[.pointer (some ⟨Q.c, 0, none⟩), nodeV a va, .int .i64 row] (w.alloc (nodeB T (.slice (some ⟨g, 0, none⟩) (l.length + 1) cp))) fun en w' => en = .returned (.int .i64 p.1) ∧ CS (w.alloc (nodeB T (.slice (some ⟨g, 0, none⟩) (l.length + 1) cp))) (Q.and w.heap.size) K es ops w' p.2 := ih (Q := Q.and w.heap.size) h1.out (by omega) hka1.out hp1
 replace hFg := hid hFg
 replace hp3 := hid hp3
 replace hp5 := hid hp5
 replace hp7 := hid hp7
 replace hp9 := hid hp9
 clear hb hk hks hp hp1 hp2 hp4 hp6 hp8 hp10 h hv hn hka
 go_enter Try.func36, Try.ntmps36
 go_upto_region 51 with (first | (go_at_call 26; refine HO.mono ?_; clear HO; rintro en w1 ⟨rfl, hw1⟩; obtain rfl := hw1.symm) | (go_at_call 36; refine HE.mono ?_; clear HE; rintro en w2 ⟨rfl, hg⟩))
 obtain ⟨K2, h2, hc2, hm2⟩ := hg
 have q0 := CM.cell (Q := Q.and w.heap.size) h1.out (Or.inr rfl) hc2 p0
 have p4 := CM.cell (Q := Q.and w.heap.size) h1.out (Or.inr rfl) hc2 p4
 have b1 := CM.cell (Q := Q.and w.heap.size) h1.out (Or.inl hFg.out) hc2 a1
 clear a0 a1 a2 a3 a4 p0
 have HV := h2.ge0.Var hp3.out
 replace h2 := hid h2
 replace hc2 := hid hc2
 replace hm2 := hid hm2
 go_upto_region 52 with (go_at_call 51; refine HV.mono ?_; clear HV; rintro en w3 ⟨rfl, hg⟩)
 obtain ⟨K3, h3, hc3, hm3⟩ := CM.graph h2.out hg
 clear hg
 have HV := h3.ge0.Var hp5.out
 replace h3 := hid h3
 replace hc3 := hid hc3
 replace hm3 := hid hm3
 go_upto_region 53 with (go_at_call 51; refine HV.mono ?_; clear HV; rintro en w4 ⟨rfl, hg⟩)
 obtain ⟨K4, h4, hc4, hm4⟩ := CM.graph h3.out hg
 clear hg
 have HP := h4.ge0.Put hp7.out
 replace h4 := hid h4
 replace hc4 := hid hc4
 replace hm4 := hid hm4
 go_upto_region 54 with (go_at_call 63; refine HP.mono ?_; clear HP; rintro en w5 ⟨rfl, hg⟩)
 obtain ⟨K5, h5, hc5, hm5⟩ := CM.graph h4.out hg
 clear hg
 have hx := (hc3.out.two hc4.out hm3.out).two hc5 (hm3.out.two hm4.out hc3.out.size)
 have hxm := (hm3.out.two hm4.out hc3.out.size).two hm5 (hc3.out.two hc4.out hm3.out).size
 have q0 := CM.cell (Q := Q.and w.heap.size) h2.out (Or.inr rfl) hx q0
 have p4 := CM.cell (Q := Q.and w.heap.size) h2.out (Or.inr rfl) hx p4
 have b1 := CM.cell (Q := Q.and w.heap.size) h2.out (Or.inl hFg.out) hx b1
 have HS : Calls Try.prog 53 #[.pointer (some ⟨Q.c, 0, none⟩), .int .i64 p.1, .int .i64 q.1, .int .i64 a.pos] w5 fun en w' => en = .returned (.tuple #[]) ∧ CS w5 (Q.and w.heap.size) K5 es ops w' e9 := Same_ck (Q := Q.and w.heap.size) a.pos h5 hp9.out
 replace h5 := hid h5
 replace hc5 := hid hc5
 replace hm5 := hid hm5
 replace hx := hid hx
 replace hxm := hid hxm
 go_upto_region 55 with (go_at_call 53; refine HS.mono ?_; clear HS; rintro en w6 ⟨rfl, hg⟩)
 obtain ⟨K6, h6, hc6, hm6⟩ := hg
 have q0 := CM.cell (Q := Q.and w.heap.size) h5.out (Or.inr rfl) hc6 q0
 clear p4 b1
 replace h6 := hid h6
 replace hc6 := hid hc6
 replace hm6 := hid hm6
 go_wp2_with fail
 go_ret
 exact ⟨rfl, CS.pre hq.out (CS.back (CS.after hc2.out hm2.out (CS.after hx.out hxm.out ⟨K6, h6.out, hc6.out, hm6.out⟩)))⟩
end
end Go.Proofs.Ytejciampbnfbhaa

namespace Go.Proofs.Ytejciampbnfbhaa
open Go.RowKit Ie
section
variable {w : World} {Q : Cc} {K : Ck} {es : Env} {ops : List Opr} {e e' : E} {T : Sy.Tr} {v : Value} {row m : Int}
theorem Expr_if {f k : Nat} (ih : InfOK f ops k) {a b c : Sy.Tr} {l : List Sy.Tr} (h : CM w Q K es ops e) (hl : es.length + 2 * (k + 1) < 1000000) (hv : Kids w Q.F v T.kids) (hk : T.kind = 11) (hks : T.kids = a :: b :: c :: l) (hp : ((exprE f ops k (es.map (·.1)) e a row).bind fun x => (x.2.put 2 (-1) (-1) 0).bind fun y => (samE f y.2 x.1 y.1).bind fun e => (exprE f ops k (es.map (·.1)) e b row).bind fun u => (exprE f ops k (es.map (·.1)) u.2 c row).bind fun v => (samE f v.2 v.1 u.1).map fun e => (u.1, e)) = some (m, e')) :
  Calls Try.prog 36 #[.pointer (some ⟨Q.c, 0, none⟩), nodeV T v, .int .i64 row] w fun en w' => en = .returned (.int .i64 m) ∧ CS w Q K es ops w' e' := by
 obtain ⟨x, hp_x, h2⟩ := Option.bind_eq_some_iff.1 hp
 obtain ⟨y, hp_y, h3⟩ := Option.bind_eq_some_iff.1 h2
 obtain ⟨e1, hp_e1, h4⟩ := Option.bind_eq_some_iff.1 h3
 obtain ⟨u, hp_u, h5⟩ := Option.bind_eq_some_iff.1 h4
 obtain ⟨z, hp_z, h6⟩ := Option.bind_eq_some_iff.1 h5
 obtain ⟨e2, hp_e2, h7⟩ := Option.map_eq_some_iff.1 h6
 obtain ⟨rfl, rfl⟩ := Prod.mk.inj h7
 clear h2 h3 h4 h5 h6 h7
 rw [hks] at hv
 obtain ⟨g, cp, hvv, hFg, hn⟩ := hv.cons (by simp)
 simp only [List.length_cons] at hvv
 subst hvv
 have j0 : (0 : Int) < (l.length : Int) + 1 + 1 + 1 := by omega
 have j1 : (1 : Int) < (l.length : Int) + 1 + 1 + 1 := by omega
 have j2 : (2 : Int) < (l.length : Int) + 1 + 1 + 1 := by omega
 obtain ⟨va, Aa, hka⟩ := hn 0 a rfl
 obtain ⟨vb, Ab, hkb⟩ := hn 1 b rfl
 obtain ⟨vc, Ac, hkc⟩ := hn 2 c rfl
 have hb := World.alloc_heap_new w (nodeB T (.slice (some ⟨g, 0, none⟩) (l.length + 1 + 1 + 1) cp))
 have hq := hid (al_ch w (nodeB T (.slice (some ⟨g, 0, none⟩) (l.length + 1 + 1 + 1) cp)))
 have h1 := hid (h.box (T := T) (v := .slice (some ⟨g, 0, none⟩) (l.length + 1 + 1 + 1) cp))
 obtain ⟨p0, p1, p2, -, p4⟩ := node_cells hb
 rw [hk] at p0
 have P0 := hid p0
 have P1 := hid p1
 have P2 := hid p2
 have P4 := hid p4
 have c0 := h1.out.c0
 have HO := h1.out.ok0
 replace Aa := hid (Aa.of_heap (hq.out.same g Aa.lt (fun h => h)))
 replace hka := hid (Kids.and (n := w.heap.size) (hka.quiet hq.out))
 replace Ab := hid (Ab.of_heap (hq.out.same g Ab.lt (fun h => h)))
 replace hkb := hid (Kids.and (n := w.heap.size) (hkb.quiet hq.out))
 replace Ac := hid (Ac.of_heap (hq.out.same g Ac.lt (fun h => h)))
 replace hkc := hid (Kids.and (n := w.heap.size) (hkc.quiet hq.out))
 replace hFg := hid hFg
 replace hp_x := hid hp_x
 replace hp_y := hid hp_y
 replace hp_e1 := hid hp_e1
 replace hp_u := hid hp_u
 replace hp_z := hid hp_z
 replace hp_e2 := hid hp_e2
 clear hb hk hks hp h hv hn p1 p2 p4
 have hc1 : Hid (Ch (K.own (Q.and w.heap.size)) (w.alloc (nodeB T (.slice (some ⟨g, 0, none⟩) (l.length + 1 + 1 + 1) cp))) (w.alloc (nodeB T (.slice (some ⟨g, 0, none⟩) (l.length + 1 + 1 + 1) cp)))) := hid (Ch.refl _ _)
 have hm1 : Hid (More (w.alloc (nodeB T (.slice (some ⟨g, 0, none⟩) (l.length + 1 + 1 + 1) cp))) (K.own (Q.and w.heap.size)) (K.own (Q.and w.heap.size))) := hid fun _ h => .inl h
 go_enter Try.func36, Try.ntmps36
 have HC : Calls Try.prog 36 #[.pointer (some ⟨Q.c, 0, none⟩), nodeV a va, .int .i64 row] (w.alloc (nodeB T (.slice (some ⟨g, 0, none⟩) (l.length + 1 + 1 + 1) cp))) fun en w' => en = .returned (.int .i64 x.1) ∧ CS (w.alloc (nodeB T (.slice (some ⟨g, 0, none⟩) (l.length + 1 + 1 + 1) cp))) (Q.and w.heap.size) K (es) ops w' x.2 := ih (Q := Q.and w.heap.size) h1.out (by first | omega | (simp; omega)) (CM.kids (Q := Q.and w.heap.size) h1.out hka.out hc1.out) (by first | exact hp_x.out | simpa using hp_x.out)
 have p4 := CM.cell (Q := Q.and w.heap.size) h1.out (Or.inr rfl) hc1.out P4.out
 obtain ⟨a0, a1, a2, a3, a4⟩ := CM.node (Q := Q.and w.heap.size) h1.out (Or.inl hFg.out) hc1.out Aa.out
 go_upto_region 38 with (first | (go_at_call 26; refine HO.mono ?_; clear HO; rintro en wk ⟨rfl, hwk⟩; obtain rfl := hwk.symm) | (go_at_call 36; refine HC.mono ?_; clear HC; rintro en w2 ⟨rfl, hg⟩))
 obtain ⟨K2, h2, hc2, hm2⟩ := CS.roll hg hc1 hm1
 clear p4 a0 a1 a2 a3 a4
 have HC := h2.out.ge0.Put hp_y.out
 go_upto_region 39 with (go_at_call 63; refine HC.mono ?_; clear HC; rintro en w3 ⟨rfl, hg⟩)
 obtain ⟨K3, h3, hc3, hm3⟩ := CS.roll (CM.graph h2.out hg) hc2 hm2
 have HC : Calls Try.prog 53 #[.pointer (some ⟨Q.c, 0, none⟩), .int .i64 x.1, .int .i64 y.1, .int .i64 a.pos] (w3) fun en w' => en = .returned (.tuple #[]) ∧ CS (w3) (Q.and w.heap.size) K3 (es) ops w' e1 := Same_ck (Q := Q.and w.heap.size) a.pos h3.out hp_e1.out
 have p4 := CM.cell (Q := Q.and w.heap.size) h1.out (Or.inr rfl) hc3.out P4.out
 have a1 := CM.cell (Q := Q.and w.heap.size) h1.out (Or.inl hFg.out) hc3.out Aa.out.2.1
 go_upto_region 40 with (go_at_call 53; refine HC.mono ?_; clear HC; rintro en w4 ⟨rfl, hg⟩)
 obtain ⟨K4, h4, hc4, hm4⟩ := CS.roll hg hc3 hm3
 clear p4 a1
 have HC : Calls Try.prog 36 #[.pointer (some ⟨Q.c, 0, none⟩), nodeV b vb, .int .i64 row] (w4) fun en w' => en = .returned (.int .i64 u.1) ∧ CS (w4) (Q.and w.heap.size) K4 (es) ops w' u.2 := ih (Q := Q.and w.heap.size) h4.out (by first | omega | (simp; omega)) (CM.kids (Q := Q.and w.heap.size) h1.out hkb.out hc4.out) (by first | exact hp_u.out | simpa using hp_u.out)
 have p4 := CM.cell (Q := Q.and w.heap.size) h1.out (Or.inr rfl) hc4.out P4.out
 obtain ⟨b0, b1, b2, b3, b4⟩ := CM.node (Q := Q.and w.heap.size) h1.out (Or.inl hFg.out) hc4.out Ab.out
 go_upto_region 41 with (go_at_call 36; refine HC.mono ?_; clear HC; rintro en w5 ⟨rfl, hg⟩)
 obtain ⟨K5, h5, hc5, hm5⟩ := CS.roll hg hc4 hm4
 clear p4 b0 b1 b2 b3 b4
 have HC : Calls Try.prog 36 #[.pointer (some ⟨Q.c, 0, none⟩), nodeV c vc, .int .i64 row] (w5) fun en w' => en = .returned (.int .i64 z.1) ∧ CS (w5) (Q.and w.heap.size) K5 (es) ops w' z.2 := ih (Q := Q.and w.heap.size) h5.out (by first | omega | (simp; omega)) (CM.kids (Q := Q.and w.heap.size) h1.out hkc.out hc5.out) (by first | exact hp_z.out | simpa using hp_z.out)
 have p4 := CM.cell (Q := Q.and w.heap.size) h1.out (Or.inr rfl) hc5.out P4.out
 obtain ⟨c0, c1, c2, c3, c4⟩ := CM.node (Q := Q.and w.heap.size) h1.out (Or.inl hFg.out) hc5.out Ac.out
 go_upto_region 42 with (go_at_call 36; refine HC.mono ?_; clear HC; rintro en w6 ⟨rfl, hg⟩)
 obtain ⟨K6, h6, hc6, hm6⟩ := CS.roll hg hc5 hm5
 clear p4 c0 c1 c2 c3 c4
 have HC : Calls Try.prog 53 #[.pointer (some ⟨Q.c, 0, none⟩), .int .i64 z.1, .int .i64 u.1, .int .i64 c.pos] (w6) fun en w' => en = .returned (.tuple #[]) ∧ CS (w6) (Q.and w.heap.size) K6 (es) ops w' e2 := Same_ck (Q := Q.and w.heap.size) c.pos h6.out hp_e2.out
 have p4 := CM.cell (Q := Q.and w.heap.size) h1.out (Or.inr rfl) hc6.out P4.out
 have c1 := CM.cell (Q := Q.and w.heap.size) h1.out (Or.inl hFg.out) hc6.out Ac.out.2.1
 go_wp2_with (go_at_call 53; refine HC.mono ?_; clear HC; rintro en w7 ⟨rfl, hg⟩)
 go_ret
 exact ⟨rfl, CS.pre hq.out (CS.back (CS.after hc6.out hm6.out hg))⟩
end
end Go.Proofs.Ytejciampbnfbhaa

namespace Go.Proofs.Ytejciampbnfbhaa
open Go.RowKit Ie
section
variable {w : World} {Q : Cc} {K : Ck} {es : Env} {ops : List Opr} {e e' : E} {T : Sy.Tr} {v : Value} {row m : Int}
theorem App_any {f k : Nat} (ih : InfOK f ops k) {a b : Sy.Tr} {l : List Sy.Tr} (h : CM w Q K es ops e) (hl : es.length + 2 * (k + 1) < 1000000) (hv : Kids w Q.F v T.kids) (hk : T.kind = 8) (hks : T.kids = a :: b :: l) (hp : ((exprE f ops k (es.map (·.1)) e a row).bind fun x => (exprE f ops k (es.map (·.1)) x.2 b row).bind fun y => (y.2.var).bind fun p => (p.2.var).bind fun c => (c.2.opn).bind fun q => (q.2.put 6 p.1 c.1 q.1).bind fun t => (samE f t.2 x.1 t.1).bind fun e => (samE f e p.1 y.1).bind fun e => (rowE f e q.1 row).map fun e => (c.1, e)) = some (m, e')) :
  Calls Try.prog 65 #[.pointer (some ⟨Q.c, 0, none⟩), nodeV T v, .int .i64 row] w fun en w' => en = .returned (.int .i64 m) ∧ CS w Q K es ops w' e' := by
 obtain ⟨x, hp_x, g0⟩ := Option.bind_eq_some_iff.1 hp
 obtain ⟨y, hp_y, g1⟩ := Option.bind_eq_some_iff.1 g0
 obtain ⟨p, hp_p, g2⟩ := Option.bind_eq_some_iff.1 g1
 obtain ⟨c, hp_c, g3⟩ := Option.bind_eq_some_iff.1 g2
 obtain ⟨q, hp_q, g4⟩ := Option.bind_eq_some_iff.1 g3
 obtain ⟨t, hp_t, g5⟩ := Option.bind_eq_some_iff.1 g4
 obtain ⟨e1, hp_e1, g6⟩ := Option.bind_eq_some_iff.1 g5
 obtain ⟨e2, hp_e2, g7⟩ := Option.bind_eq_some_iff.1 g6
 obtain ⟨e3, hp_e3, g9⟩ := Option.map_eq_some_iff.1 g7
 obtain ⟨rfl, rfl⟩ := Prod.mk.inj g9
 clear g0 g1 g2 g3 g4 g5 g6 g7 g9
 rw [hks] at hv
 obtain ⟨g, cp, hvv, hFg, hn⟩ := hv.cons (by simp)
 simp only [List.length_cons] at hvv
 subst hvv
 have j0 : (0 : Int) < (l.length : Int) + 1 + 1 := by omega
 have j1 : (1 : Int) < (l.length : Int) + 1 + 1 := by omega
 obtain ⟨va, Aa, hka⟩ := hn 0 a rfl
 obtain ⟨vb, Ab, hkb⟩ := hn 1 b rfl
 have hb := World.alloc_heap_new w (nodeB T (.slice (some ⟨g, 0, none⟩) (l.length + 1 + 1) cp))
 have hq := hid (al_ch w (nodeB T (.slice (some ⟨g, 0, none⟩) (l.length + 1 + 1) cp)))
 have h1 := hid (h.box (T := T) (v := .slice (some ⟨g, 0, none⟩) (l.length + 1 + 1) cp))
 obtain ⟨p0, p1, p2, -, p4⟩ := node_cells hb
 rw [hk] at p0
 have P0 := hid p0
 have P1 := hid p1
 have P2 := hid p2
 have P4 := hid p4
 have c0 := h1.out.c0
 have HO := h1.out.ok0
 replace Aa := hid (Aa.of_heap (hq.out.same g Aa.lt (fun h => h)))
 replace hka := hid (Kids.and (n := w.heap.size) (hka.quiet hq.out))
 replace Ab := hid (Ab.of_heap (hq.out.same g Ab.lt (fun h => h)))
 replace hkb := hid (Kids.and (n := w.heap.size) (hkb.quiet hq.out))
 replace hFg := hid hFg
 replace hp_x := hid hp_x
 replace hp_y := hid hp_y
 replace hp_p := hid hp_p
 replace hp_c := hid hp_c
 replace hp_q := hid hp_q
 replace hp_t := hid hp_t
 replace hp_e1 := hid hp_e1
 replace hp_e2 := hid hp_e2
 replace hp_e3 := hid hp_e3
 clear hb hk hks hp h hv hn p1 p2 p4
 have hc1 : Hid (Ch (K.own (Q.and w.heap.size)) (w.alloc (nodeB T (.slice (some ⟨g, 0, none⟩) (l.length + 1 + 1) cp))) (w.alloc (nodeB T (.slice (some ⟨g, 0, none⟩) (l.length + 1 + 1) cp)))) := hid (Ch.refl _ _)
 have hm1 : Hid (More (w.alloc (nodeB T (.slice (some ⟨g, 0, none⟩) (l.length + 1 + 1) cp))) (K.own (Q.and w.heap.size)) (K.own (Q.and w.heap.size))) := hid fun _ h => .inl h
 go_enter Try.func65, Try.ntmps65
 have HC : Calls Try.prog 36 #[.pointer (some ⟨Q.c, 0, none⟩), nodeV a va, .int .i64 row] (w.alloc (nodeB T (.slice (some ⟨g, 0, none⟩) (l.length + 1 + 1) cp))) fun en w' => en = .returned (.int .i64 x.1) ∧ CS (w.alloc (nodeB T (.slice (some ⟨g, 0, none⟩) (l.length + 1 + 1) cp))) (Q.and w.heap.size) K (es) ops w' x.2 := ih (Q := Q.and w.heap.size) h1.out (by first | omega | (simp; omega)) (CM.kids (Q := Q.and w.heap.size) h1.out hka.out hc1.out) (by first | exact hp_x.out | simpa using hp_x.out)
 have p4 := CM.cell (Q := Q.and w.heap.size) h1.out (Or.inr rfl) hc1.out P4.out
 obtain ⟨a0, a1, a2, a3, a4⟩ := CM.node (Q := Q.and w.heap.size) h1.out (Or.inl hFg.out) hc1.out Aa.out
 go_upto_region 3 with (first | (go_at_call 26; refine HO.mono ?_; clear HO; rintro en wk ⟨rfl, hwk⟩; obtain rfl := hwk.symm) | (go_at_call 36; refine HC.mono ?_; clear HC; rintro en w2 ⟨rfl, hg⟩))
 obtain ⟨K2, h2, hc2, hm2⟩ := CS.roll hg hc1 hm1
 clear p4 a0 a1 a2 a3 a4
 have HC : Calls Try.prog 36 #[.pointer (some ⟨Q.c, 0, none⟩), nodeV b vb, .int .i64 row] (w2) fun en w' => en = .returned (.int .i64 y.1) ∧ CS (w2) (Q.and w.heap.size) K2 (es) ops w' y.2 := ih (Q := Q.and w.heap.size) h2.out (by first | omega | (simp; omega)) (CM.kids (Q := Q.and w.heap.size) h1.out hkb.out hc2.out) (by first | exact hp_y.out | simpa using hp_y.out)
 have p4 := CM.cell (Q := Q.and w.heap.size) h1.out (Or.inr rfl) hc2.out P4.out
 obtain ⟨b0, b1, b2, b3, b4⟩ := CM.node (Q := Q.and w.heap.size) h1.out (Or.inl hFg.out) hc2.out Ab.out
 go_upto_region 4 with (go_at_call 36; refine HC.mono ?_; clear HC; rintro en w3 ⟨rfl, hg⟩)
 obtain ⟨K3, h3, hc3, hm3⟩ := CS.roll hg hc2 hm2
 clear p4 b0 b1 b2 b3 b4
 have HC := h3.out.ge0.Var hp_p.out
 go_upto_region 5 with (go_at_call 51; refine HC.mono ?_; clear HC; rintro en w4 ⟨rfl, hg⟩)
 obtain ⟨K4, h4, hc4, hm4⟩ := CS.roll (CM.graph h3.out hg) hc3 hm3
 have HC := h4.out.ge0.Var hp_c.out
 go_upto_region 6 with (go_at_call 51; refine HC.mono ?_; clear HC; rintro en w5 ⟨rfl, hg⟩)
 obtain ⟨K5, h5, hc5, hm5⟩ := CS.roll (CM.graph h4.out hg) hc4 hm4
 have HC := h5.out.ge0.Open hp_q.out
 go_upto_region 7 with (go_at_call 50; refine HC.mono ?_; clear HC; rintro en w6 ⟨rfl, hg⟩)
 obtain ⟨K6, h6, hc6, hm6⟩ := CS.roll (CM.graph h5.out hg) hc5 hm5
 have HC := h6.out.ge0.Put hp_t.out
 go_upto_region 8 with (go_at_call 63; refine HC.mono ?_; clear HC; rintro en w7 ⟨rfl, hg⟩)
 obtain ⟨K7, h7, hc7, hm7⟩ := CS.roll (CM.graph h6.out hg) hc6 hm6
 have HC : Calls Try.prog 53 #[.pointer (some ⟨Q.c, 0, none⟩), .int .i64 x.1, .int .i64 t.1, .int .i64 a.pos] (w7) fun en w' => en = .returned (.tuple #[]) ∧ CS (w7) (Q.and w.heap.size) K7 (es) ops w' e1 := Same_ck (Q := Q.and w.heap.size) a.pos h7.out hp_e1.out
 have p4 := CM.cell (Q := Q.and w.heap.size) h1.out (Or.inr rfl) hc7.out P4.out
 have a1 := CM.cell (Q := Q.and w.heap.size) h1.out (Or.inl hFg.out) hc7.out Aa.out.2.1
 go_upto_region 9 with (go_at_call 53; refine HC.mono ?_; clear HC; rintro en w8 ⟨rfl, hg⟩)
 obtain ⟨K8, h8, hc8, hm8⟩ := CS.roll hg hc7 hm7
 clear p4 a1
 have HC : Calls Try.prog 53 #[.pointer (some ⟨Q.c, 0, none⟩), .int .i64 p.1, .int .i64 y.1, .int .i64 b.pos] (w8) fun en w' => en = .returned (.tuple #[]) ∧ CS (w8) (Q.and w.heap.size) K8 (es) ops w' e2 := Same_ck (Q := Q.and w.heap.size) b.pos h8.out hp_e2.out
 have p4 := CM.cell (Q := Q.and w.heap.size) h1.out (Or.inr rfl) hc8.out P4.out
 have b1 := CM.cell (Q := Q.and w.heap.size) h1.out (Or.inl hFg.out) hc8.out Ab.out.2.1
 go_upto_region 10 with (go_at_call 53; refine HC.mono ?_; clear HC; rintro en w9 ⟨rfl, hg⟩)
 obtain ⟨K9, h9, hc9, hm9⟩ := CS.roll hg hc8 hm8
 clear p4 b1
 have HC : Calls Try.prog 85 #[.pointer (some ⟨Q.c, 0, none⟩), .int .i64 q.1, .int .i64 row, .int .i64 T.pos] (w9) fun en w' => en = .returned (.tuple #[]) ∧ CS (w9) (Q.and w.heap.size) K9 (es) ops w' e3 := Row_ck (Q := Q.and w.heap.size) T.pos h9.out hp_e3.out
 have p1 := CM.cell (Q := Q.and w.heap.size) h1.out (Or.inr rfl) hc9.out P1.out
 go_wp2_with (go_at_call 85; refine HC.mono ?_; clear HC; rintro en w10 ⟨rfl, hg⟩)
 go_ret
 exact ⟨rfl, CS.pre hq.out (CS.back (CS.after hc9.out hm9.out hg))⟩
end
end Go.Proofs.Ytejciampbnfbhaa
