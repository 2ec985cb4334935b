import Derived.Test.YtejciampbnfbhaaMJm
import Derived.Test.YtejciampbnfbhaaMJlT
set_option linter.unusedVariables false
set_option linter.unusedSimpArgs false
set_option maxRecDepth 100000
set_option maxHeartbeats 16000000
namespace Go.Proofs.Ytejciampbnfbhaa
open Go.RowKit Ie
theorem CM.vn {w : World} {Q : Cc} {K : Ck} {es : Env} {ops : List Opr} {e : E} (h : CM w Q K es ops e) : VN w Q.c Q.b K.G e := ⟨⟨h.vm.1, h.vm.2⟩, h.nc⟩
theorem CT.gt {w w3 w4 : World} {c b : Nat} {G : Gg} {x : En} {mt mr D R : Nat} {e : E} {s : Mps} (hq : Ch (fun _ => False) w w3) (hD : w.heap.size ≤ D) (hR : w.heap.size ≤ R) (h : CT w3 c b G x mt mr D R w4 e s) : GT w b G w4 e := by
 obtain ⟨G', h1, h2, h3⟩ := h
 have ho : ∀ k, ownC G b D R k → G.own b k ∨ w.heap.size ≤ k := fun k hk => by
  rcases hk with hk | rfl | rfl
  ·exact .inl hk
  ·exact .inr hD
  ·exact .inr hR
 refine ⟨G', h1.vn.vm.ge, (hq.mono (fun _ h => h.elim)).trans h2 ho, fun k hk => ?_⟩
 rcases h3 k (.inl hk) with h | h
 ·exact ho k h
 ·exact .inr (Nat.le_trans hq.size h)
theorem Use_any {f : Nat} {w : World} {Q : Cc} {K : Ck} {es : Env} {ops : List Opr} {e e' : E} {x : En × Value × Value} {m : Int} (h : CM w Q K es ops e) (hx : x ∈ es) (hs : use f e x.1 = some (m, e')) :
  Calls Try.prog 64 #[.pointer (some ⟨Q.c, 0, none⟩), nmV x] w fun en w' => en = .returned (.int .i64 m) ∧ CS w Q K es ops w' e' := by
 unfold use at hs
 obtain ⟨p, hp, hs2⟩ := Option.bind_eq_some_iff.1 hs
 have hmk := fun w' : World => run_makeMap_plain (P := Try.prog) (w := w') 77
 have hq1 := hid (al_ch w (xnB x))
 have hb1 := hid (World.alloc_heap_new w (xnB x))
 have h1 := hid (h.quiet hq1.out)
 have hn := h.nam x hx
 obtain ⟨q0, q1, q2, q3, q4, q5⟩ := box_cells hb1.out
 obtain ⟨c0, -, -, -, -⟩ := h1.out.cells
 have hKl := fun k (hk : K.own Q k) => h.lt hk
 cases hall : x.1.all with
 | true =>
  rw [hall, if_pos rfl] at hp
  obtain ⟨r, hr, rfl⟩ := Option.map_eq_some_iff.1 hp
  obtain ⟨mt, mr, e3, e4, ht, hq, hto, hqo⟩ := hn.gen hall
  have hq3 := hid (((al_ch w (xnB x)).al (.map #[] 0)).al (.map #[] 0))
  have m1 := MI.new (w.alloc (xnB x))
  have m2 := MI.new ((w.alloc (xnB x)).alloc (.map #[] 0))
  simp only [al_size] at m1 m2
  have m1' := MI.keep (w' := ((w.alloc (xnB x)).alloc (.map #[] 0)).alloc (.map #[] 0)) m1 (Below.heap_alloc _ _ _ m1.lt)
  have htl := ht.lt
  have hql := hq.lt
  have hno : ∀ k, k < w.heap.size → ¬ K.own Q k → ¬ ownC K.G Q.b (w.heap.size + 1) (w.heap.size + 1 + 1) k := fun k hk hn hc => by
   rcases hc with hc | hc | hc
   ·exact hn (.inl hc)
   ·omega
   ·omega
  have HC := Copied_any Q.c Q.b f f (x := x.1) (mt := mt) (mr := mr) (D := w.heap.size + 1) (R := w.heap.size + 1 + 1) (s := ([], [])) ⟨h.vn.quiet hq3.out, m1', m2, ht.quiet hq3.out, hq.quiet hq3.out, by omega, fun hk => by have := hKl _ (.inl hk); omega, fun hk => by have := hKl _ (.inl hk); omega, hno _ htl hto, hno _ hql hqo⟩ hr
  have hnm : nmV (x.1, .map (some mt), .map (some mr)) = .agg #[str x.1.name, .int .i64 x.1.t, .bool true, x.2.1, x.2.2, .bool x.1.opn] := by rw [← e3, ← e4, ← hall]
  rw [hnm] at HC
  rw [hall] at q2
  clear hnm hall
  clear hno m1 m2 m1' e3 e4 ht hq hto hqo htl hql hn hp
  replace h := hid h
  replace hr := hid hr
  replace hs2 := hid hs2
  go_enter Try.func64, Try.ntmps64
  go_upto_region 4 with (go_at_call 83; refine HC.mono ?_; clear HC; rintro en w4 ⟨rfl, hct⟩)
  have hb4 : w4.heap[w.heap.size]? = some (xnB x) := by
   obtain ⟨G', -, h2, -⟩ := hct; refine (h2.same _ (by simp; omega) (fun hc => ?_)).trans (blk_alloc (blk_alloc hb1.out))
   rcases hc with hc | hc | hc
   ·have := hKl _ (.inl hc); omega
   ·omega
   ·omega
  obtain ⟨K4, h4, hc4, hm4⟩ := h.out.graph (CT.gt hq3.out (by omega) (by omega) hct)
  clear hct q0 q1 q2 q3 q4 q5 c0 hmk hKl
  obtain ⟨-, -, -, -, -, q5⟩ := box_cells hb4
  clear hb4
  replace h4 := hid h4
  replace hc4 := hid hc4
  replace hm4 := hid hm4
  have hs2 := hs2.out
  cases hop : x.1.opn with
  | true =>
   rw [hop, if_pos rfl] at hs2; rw [hop] at q5; have HO := Opened_any Q.c Q.b f f (h4.out.vn) hs2; have c0' := h4.out.cells.1; clear hop
   go_wp2_with (go_at_call 84; refine HO.mono ?_; clear HO; rintro en w6 ⟨rfl, h6⟩)
   go_ret
   exact ⟨rfl, CS.after hc4.out hm4.out (h4.out.graph h6.gt)⟩
  | false =>
   rw [hop, if_neg (by decide)] at hs2; rw [hop] at q5; obtain ⟨e1, e2⟩ := Prod.mk.inj (Option.some.inj hs2); subst e1 e2
   go_wp2_with fail
   go_ret
   exact ⟨rfl, CS.after hc4.out hm4.out (CS.refl h4.out)⟩
 | false =>
  rw [hall, if_neg (by decide)] at hp
  obtain rfl := Option.some.inj hp
  rw [hall] at q2
  clear hall hp hn hKl hmk
  have hc1 := hid (hq1.out.mono (O1 := K.own Q) (fun _ h => h.elim))
  have hm1 : Hid (More w (K.own Q) (K.own Q)) := hid fun _ h => .inl h
  go_enter Try.func64, Try.ntmps64
  go_upto_region 4 with (fail)
  generalize w.alloc (xnB x) = w1 at *
  cases hop : x.1.opn with
  | true =>
   rw [hop, if_pos rfl] at hs2; rw [hop] at q5; have HO := Opened_any Q.c Q.b f f (h1.out.vn) hs2; have c0' := h1.out.cells.1; clear hop
   go_wp2_with (go_at_call 84; refine HO.mono ?_; clear HO; rintro en w6 ⟨rfl, h6⟩)
   go_ret
   exact ⟨rfl, CS.after hc1.out hm1.out (h1.out.graph h6.gt)⟩
  | false =>
   rw [hop, if_neg (by decide)] at hs2; rw [hop] at q5; obtain ⟨e1, e2⟩ := Prod.mk.inj (Option.some.inj hs2); subst e1 e2
   go_wp2_with fail
   go_ret
   exact ⟨rfl, CS.after hc1.out hm1.out (CS.refl h1.out)⟩
end Go.Proofs.Ytejciampbnfbhaa
