import Derived.Test.YtejciampbnfbhaaHw
import Derived.Test.YtejciampbnfbhaaMJzU
import Derived.Deep.CutRange
set_option linter.unusedVariables false
set_option linter.unusedSimpArgs false
set_option maxRecDepth 100000
set_option maxHeartbeats 16000000
namespace Go.Proofs.Ytejciampbnfbhaa
open Go.RowKit Ie
theorem Found_any {f k : Nat} {w : World} {F : Nat → Prop} {T : Sy.Tr} {v : Value} {L : List (Un.Nm × Ty.P)} (hv : Kids w F v T.kids) (hF : ∀ q, F q → q < w.heap.size) (hkind : T.kind = 0) {N : Nat} (hN : T.num = (N : Int)) (hN2 : N < T.kids.length) (hlen : T.kids.length + 2 * (k + 1) < 1000000) (hp : checkE f k T = some L) (hsh : ∀ x ∈ L, shB x.2 = true ∧ x.2.parts ≤ 1000000) :
  Calls Try.prog 13 #[nodeV T v] w fun en w' => ∃ ov kk nn rr os az ps, en = .returned (.tuple #[ov, tyV kk nn rr os az, .agg #[.int .i64 0, .int .i64 0]]) ∧ isSl os ∧ isSl az ∧ ps.map (·.1) = L.map (·.1) ∧ w'.ownsRow 0 32 2 ov ps.length (tpsC ps) ∧ Ch (fun _ => False) w w' ∧ (∀ z, ov.ownBlock = some z → w.heap.size ≤ z) := by
 obtain ⟨g, cp, hvv, hFg, hn⟩ := hv.cons (fun e => by rw [e] at hN2; cases hN2)
 subst hvv
 unfold checkE at hp
 rw [if_pos hkind] at hp
 obtain ⟨ops, hops, hp⟩ := Option.bind_eq_some_iff.1 hp
 unfold foundE at hp
 rw [if_neg (by rw [hN]; omega)] at hp
 obtain ⟨q, hdf, hp⟩ := Option.bind_eq_some_iff.1 hp
 obtain ⟨mn, hmn, hp⟩ := Option.bind_eq_some_iff.1 hp
 obtain ⟨zz, hp_z, hp⟩ := Option.bind_eq_some_iff.1 hp
 obtain ⟨r, hp_r, hp⟩ := Option.bind_eq_some_iff.1 hp
 obtain ⟨u, hp_u, hp⟩ := Option.bind_eq_some_iff.1 hp
 obtain ⟨s, hp_s, rfl⟩ := Option.map_eq_some_iff.1 hp
 simp only [hN, Int.toNat_natCast] at hops hdf
 obtain ⟨M, hM⟩ : ∃ M, T.kids.length = M + 1 := ⟨T.kids.length - 1, by omega⟩
 have hNM : N ≤ M := by omega
 have hMb : Hid (M ≤ 1000000) := hid (by omega)
 obtain ⟨DL, hDL⟩ : ∃ DL, DL = (T.kids.drop N).dropLast := ⟨_, rfl⟩
 have hDg : Hid (∀ j, N + j < M → DL[j]? = T.kids[N + j]?) := hid fun j hj => by
  rw [hDL, List.getElem?_dropLast, List.length_drop, if_pos (by omega), List.getElem?_drop]
 have hDn : Hid (DL.length = M - N) := hid (by rw [hDL, List.length_dropLast, List.length_drop]; omega)
 have hmM : Hid (T.kids[M]? = some mn) := hid (by rw [List.getLast?_eq_getElem?, hM] at hmn; exact hmn)
 rw [← hDL] at hdf
 clear hDL hmn
 have hbx := World.alloc_heap_new w (nodeB T (.slice (some ⟨g, 0, none⟩) T.kids.length cp))
 have hq0 := hid (((al_ch w (nodeB T (.slice (some ⟨g, 0, none⟩) T.kids.length cp))).al (tyB 0 0 0 (.slice none 0 0) (.slice none 0 0))).al (.cells #[.int .i64 0, .int .i64 0] 28))
 have hz0 : Hid ((((w.alloc (nodeB T (.slice (some ⟨g, 0, none⟩) T.kids.length cp))).alloc (tyB 0 0 0 (.slice none 0 0) (.slice none 0 0))).alloc (.cells #[.int .i64 0, .int .i64 0] 28)).heap.size = w.heap.size + 3) := hid (by simp)
 have hb0 := blk_alloc (x := .cells #[.int .i64 0, .int .i64 0] 28) (blk_alloc (x := tyB 0 0 0 (.slice none 0 0) (.slice none 0 0)) hbx)
 have hb1 := blk_alloc (x := .cells #[.int .i64 0, .int .i64 0] 28) (World.alloc_heap_new (w.alloc (nodeB T (.slice (some ⟨g, 0, none⟩) T.kids.length cp))) (tyB 0 0 0 (.slice none 0 0) (.slice none 0 0)))
 have hb2 := World.alloc_heap_new ((w.alloc (nodeB T (.slice (some ⟨g, 0, none⟩) T.kids.length cp))).alloc (tyB 0 0 0 (.slice none 0 0) (.slice none 0 0))) (.cells #[.int .i64 0, .int .i64 0] 28)
 simp only [al_size] at hb1 hb2
 have hkid : Hid (∀ i t, T.kids[i]? = some t → ∃ kt, NodeAt w g (i * 5) t kt ∧ Kids w F kt t.kids) := hid hn
 replace hkind := hid hkind
 replace hv := hid hv
 replace hops := hid hops
 replace hdf := hid hdf
 replace hp_z := hid hp_z
 replace hp_r := hid hp_r
 replace hp_u := hid hp_u
 replace hp_s := hid hp_s
 replace hsh := hid hsh
 replace hF := hid hF
 replace hN := hid hN
 replace hM := hid hM
 clear hn hbx
 go_enter Try.func13, Try.ntmps13
 go_upto_region 1 with (fail)
 change Code.wp _ _ _ _ (((w.alloc (nodeB T (.slice (some ⟨g, 0, none⟩) T.kids.length cp))).alloc (tyB 0 0 0 (.slice none 0 0) (.slice none 0 0))).alloc (.cells #[.int .i64 0, .int .i64 0] 28))
 generalize ((w.alloc (nodeB T (.slice (some ⟨g, 0, none⟩) T.kids.length cp))).alloc (tyB 0 0 0 (.slice none 0 0) (.slice none 0 0))).alloc (.cells #[.int .i64 0, .int .i64 0] 28) = w0 at *
 have HC := New_any w0
 go_upto_region 2 with (go_at_call 24; refine HC.mono ?_; clear HC; rintro en wN ⟨b, G, rfl, hG, hGo, hqN⟩)
 have hqc := al_ch wN (ckB b (.slice none 0 0))
 have hbc := World.alloc_heap_new wN (ckB b (.slice none 0 0))
 have hzc : (wN.alloc (ckB b (.slice none 0 0))).heap.size = wN.heap.size + 1 := by simp
 change Code.wp _ _ _ _ (wN.alloc (ckB b (.slice none 0 0)))
 generalize wN.alloc (ckB b (.slice none 0 0)) = wc at *
 have hq0c := hid ((hqN.trans hqc (fun _ h => h.elim)))
 have hNz := hqN.size
 have hown : Hid (∀ z, G.own b z → w0.heap.size ≤ z ∧ z < wN.heap.size) := hid fun z hz => ⟨hGo z hz, hG.gm.lt hz⟩
 have hGc := hid (hG.quiet hqc)
 generalize wN.heap.size = c at *
 have hb0c := hid ((hq0c.out.same _ (Array.getElem?_eq_some_iff.1 hb0).1 (fun h => h)).trans hb0)
 have hb1c := hid ((hq0c.out.same _ (Array.getElem?_eq_some_iff.1 hb1).1 (fun h => h)).trans hb1)
 have hb2c := hid ((hq0c.out.same _ (Array.getElem?_eq_some_iff.1 hb2).1 (fun h => h)).trans hb2)
 clear hb0 hb1 hb2 hqN hqc hG hGo
 replace hbc := hid hbc
 have hzw : w.heap.size + 3 ≤ c := by have := hz0.out; omega
 obtain ⟨p0, p1, p2, p3, p4⟩ := node_cells hb0c.out
 have hl0 : ((T.kids.length : Int) == 0) = false := beq_eq_false_iff_ne.2 (by have := hM.out; omega)
 have hl1 : ¬ (T.kids.length : Int) = 0 := by have := hM.out; omega
 have HC := Ops_any (k := f) hbc.out (F := F) (fun z hz => ⟨by have := hF.out z hz; have := hq0.out.size; have := hq0c.out.size; omega, by have := hF.out z hz; omega⟩) ((hv.out.quiet hq0.out).quiet hq0c.out) hN.out hN2 (by omega) hops.out
 have p0k := p0
 rw [hkind.out] at p0k
 clear p0
 unfold nodeV at HC
 rw [hkind.out] at HC
 go_upto_region 5 with (go_at_call 25; refine HC.mono ?_; clear HC; rintro en w5 ⟨rfl, ov, ol, hol1, hb5, hO5, hc5⟩)
 obtain ⟨Q, K, rfl, rfl, hF5, h5, hK5⟩ : ∃ (Q : Cc) (K : Ck), c = Q.c ∧ b = Q.b ∧ Hid (∀ z, (F z ∨ z = w.heap.size ∨ z = w.heap.size + 1 ∨ z = w.heap.size + 1 + 1) → Q.F z) ∧ Hid (CM w5 Q K [] ops E.new) ∧ Hid (∀ z, K.own Q z → w.heap.size + 3 ≤ z) := by
  have hnc : ¬ G.own b c := fun h => by have := (hown.out c h).2; omega
  refine ⟨⟨c, b, ov, fun z => F z ∨ z = w.heap.size ∨ z = w.heap.size + 1 ∨ z = w.heap.size + 1 + 1⟩, ⟨G, .slice none 0 0⟩, rfl, rfl, hid fun _ h => h, hid ?_, hid fun z hz => ?_⟩
  ·rw [← hol1]
   refine CM.start ⟨_, R.start, hGc.out.apart (O := fun z => z = c) hc5 (fun z hz ho => hnc (ho ▸ hz)) (fun i x z hx hz ho => (out_cells hGc.out hbc.out (by decide) hnc).2 i x hx (ho ▸ hz))⟩ hb5 hnc hO5 (fun z hz => ?_) (fun z hz => ?_)
   ·rcases hz with hz | rfl
    ·have := (hown.out z hz).2; omega
    ·omega
   ·have h5z := hc5.size
    have h0z := hz0.out
    rcases hz with hz | rfl | rfl | rfl
    ·have := hF.out z hz
     exact ⟨by omega, fun ho => by have := (hown.out z ho).1; omega, by omega⟩
    ·exact ⟨by omega, fun ho => by have := (hown.out _ ho).1; omega, by omega⟩
    ·exact ⟨by omega, fun ho => by have := (hown.out _ ho).1; omega, by omega⟩
    ·exact ⟨by omega, fun ho => by have := (hown.out _ ho).1; omega, by omega⟩
  ·have h0z := hz0.out
   rcases hz with hz | hz | hz
   ·have := (hown.out z hz).1; omega
   ·obtain rfl : z = c := hz
    omega
   ·cases hz
 have hc05 := hid ((hq0c.out.mono (O1 := fun z => z = Q.c) (fun _ h => h.elim)).trans hc5 (fun _ h => .inl h))
 have hb0d := hid ((hc5.same _ (Array.getElem?_eq_some_iff.1 hb0c.out).1 (fun e => by omega)).trans hb0c.out)
 have hb1d := hid ((hc5.same _ (Array.getElem?_eq_some_iff.1 hb1c.out).1 (fun e => by omega)).trans hb1c.out)
 have hb2d := hid ((hc5.same _ (Array.getElem?_eq_some_iff.1 hb2c.out).1 (fun e => by omega)).trans hb2c.out)
 have hw5 : Hid (Ch (fun _ => False) w w5) := hid (hq0.out.old hc05.out (fun z e => by subst e; omega))
 have hkd5 : Hid (∀ i t, T.kids[i]? = some t → ∃ kt, NodeAt w5 g (i * 5) t kt ∧ Kids w5 Q.F kt t.kids) := hid fun i t ht => by
  obtain ⟨kt, h2, h3⟩ := hkid.out i t ht
  exact ⟨kt, h2.of_heap (hw5.out.same g h2.lt (fun h => h)), (h3.quiet hw5.out).carry (fun _ _ _ => rfl) (fun z hz _ => hF5.out z (.inl hz))⟩
 replace hFg := hid (hF5.out g (.inl hFg))
 obtain ⟨p0, p1, p2, p3, p4⟩ := node_cells hb0d.out
 rw [hN.out] at p3
 have P3 := hid p3
 have P4 := hid p4
 have hol : Hid (OpsOK ops) := hid (ops_ok hops.out (by simp; omega))
 clear p0 p1 p2 p0k hb0c hb1c hb2c hbc hO5 hb5 hGc hown hkid hv hops hq0c hc5 hNz hzc hc05 hol1 hl0 hl1 hzw
 have hi1 : IntKind.i64.wrap ((T.kids.length : Int) - 1) = (M : Int) := by rw [IntWalk.i64_in _ (by have := hM.out; omega)]; have := hM.out; omega
 go_wp2_with fail
 clear p3 p4
 go_loopg [6, 7] (M + 1 - N) (fun qq v6 v7 wr => ∃ i : Nat, v7 = .int .i64 (i : Nat) ∧ N ≤ i ∧ i ≤ M ∧ qq = M + 1 - i ∧ ∃ Kr es er ps op, Hid (CM wr Q Kr es ops er) ∧ Hid (Ch (K.own Q) w5 wr) ∧ Hid (More w5 (K.own Q) (Kr.own Q)) ∧ Hid (wr.ownsRow 0 32 2 v6 ps.length (tpsC ps)) ∧ Hid (∀ B, v6.ownBlock = some B → w5.heap.size ≤ B ∧ ¬ Kr.own Q B) ∧ Hid (ps.map (·.1) = op.map (·.1)) ∧ Hid (op.map (·.1) = (DL.take (i - N)).map (·.name)) ∧ es.length = i - N ∧ Hid (defsE f ops k (DL.drop (i - N)) (es.map (·.1)) er op = some q))
 case atStart => exact ⟨N, by first | rfl | simp, Nat.le_refl _, hNM, rfl, K, [], E.new, [], [], h5, hid (Ch.refl _ _), hid (fun _ h => .inl h), hid (World.ownsRow_nil _ _ _ _), hid (fun B h => by cases h), hid rfl, hid (by simp), by simp, hid (by rw [Nat.sub_self, List.drop_zero]; exact hdf.out)⟩
 case round =>
  obtain ⟨i, rfl, hNi, hiM, rfl, Kr, es, er, ps, op, hR, hcR, hmR, hrow, hrb, hps, hop, hes, hdr⟩ := hrel
  rename World => wr
  have p3 := CM.cell (Q := Q) h5.out (hF5.out _ (.inr (.inl rfl))) hcR.out P3.out
  have p4 := CM.cell (Q := Q) h5.out (hF5.out _ (.inr (.inl rfl))) hcR.out P4.out
  obtain ⟨oa, ocap, rfl, -, -⟩ := row_slice hrow.out
  have HO := Ok_any hR.out
  by_cases hlt : i < M
  ·obtain ⟨d, hd⟩ : ∃ d, T.kids[i]? = some d := ⟨_, List.getElem?_eq_getElem (by have := hM.out; omega)⟩
   have hDd : DL[i - N]? = some d := (hDg.out (i - N) (by omega)).trans (by rw [show N + (i - N) = i from by omega]; exact hd); have hdr2 := hdr.out; rw [List.drop_eq_getElem_cons (List.getElem?_eq_some_iff.1 hDd).1, (List.getElem?_eq_some_iff.1 hDd).2] at hdr2; obtain ⟨p, x, s1, hany, hp_p, hp_b, hp_x, hp_t, hnext⟩ := defs_cons hdr2; obtain ⟨vd, Ad, hkd⟩ := hkd5.out i d hd; replace hkd := CM.kids (Q := Q) h5.out hkd hcR.out; obtain ⟨da, dl, dc, rfl⟩ := hkd.sl; obtain ⟨d0, d1, d2, d3, d4⟩ := Ad.of_heap (CM.kept (Q := Q) h5.out hFg.out hcR.out); have k0 : (0 : Int) ≤ (i : Int) := by omega
   have k1 : (i : Int) < (T.kids.length : Int) := by have := hM.out; omega
   have k3 : (i : Int) < (M : Int) := by omega
   have hqt := al_ch wr (nodeB d (.slice da dl dc)); obtain ⟨b0, b1, b2, b3, b4⟩ := node_cells (World.alloc_heap_new wr (nodeB d (.slice da dl dc))); have hbd := hid (World.alloc_heap_new wr (nodeB d (.slice da dl dc))); have B0 := hid b0; have B1 := hid b1; have B2 := hid b2; have B3 := hid b3; have B4 := hid b4; have h20 := hid (hR.out.box (T := d) (v := (.slice da dl dc))); replace hkd := hid (Kids.and (n := wr.heap.size) (hkd.quiet hqt)); have p3w := hid (cell_keeps hqt p3); have p4w := hid (cell_keeps hqt p4)
   have hgw : Hid (∀ j t, T.kids[j]? = some t → (wr.alloc (nodeB d (.slice da dl dc))).cell? ⟨g, j * 5 + 2, none⟩ = some (str t.name)) := hid fun j t ht => by
    obtain ⟨kt, h2, -⟩ := hkd5.out j t ht; exact cell_keeps hqt (h2.of_heap (CM.kept (Q := Q) h5.out hFg.out hcR.out)).2.2.1
   replace hqt := hid hqt; replace hd := hid hd; replace hDd := hid hDd; replace hany := hid hany; replace hp_p := hid hp_p; replace hp_b := hid hp_b; replace hp_x := hid hp_x; replace hp_t := hid hp_t; replace hnext := hid hnext; have hmem : Hid ((d.name, s1.1) ∈ (q.2.2 ++ [([109, 97, 105, 110], s.1)])) := hid (List.mem_append.2 (.inl (defs_mem hnext.out _ (List.mem_append.2 (.inr (by simp)))))); clear hdr hdr2 Ad b0 b1 b2 b3 b4
   go_upto_region 9 with (go_at_call 26; refine HO.mono ?_; clear HO; rintro en wk ⟨rfl, hwk⟩; obtain rfl := hwk.symm)
   go_upto_region 10 with (fail)
   clear d0 d1 d2 d3 d4 p3 p4; change Code.wp _ _ _ _ (wr.alloc (nodeB d (.slice da dl dc))); have hzd : Hid ((wr.alloc (nodeB d (.slice da dl dc))).heap.size = wr.heap.size + 1) := hid (by simp); generalize wr.alloc (nodeB d (.slice da dl dc)) = wd at *; have p3 := p3w.out
   go_wp2_with fail
   clear p3
   go_loopg [9] (i + 1 - N) (fun qq v9 wj => ∃ j : Nat, v9 = .int .i64 (j : Nat) ∧ N ≤ j ∧ j ≤ i ∧ qq = i + 1 - j ∧ Hid (Ch (fun _ => False) wd wj))
   case atStart => exact ⟨N, by first | rfl | simp, Nat.le_refl _, hNi, rfl, hid (Ch.refl _ _)⟩
   case round =>
    obtain ⟨j, rfl, hNj, hji, rfl, hwj⟩ := hrel; rename World => wj
    by_cases hjl : j < i
    ·obtain ⟨y, hy⟩ : ∃ y, T.kids[j]? = some y := ⟨_, List.getElem?_eq_getElem (by have := hM.out; omega)⟩
     have p4 := cell_keeps hwj.out p4w.out; have b2 := cell_keeps hwj.out B2.out; have y2 := cell_keeps hwj.out (hgw.out j y hy); have m0 : (0 : Int) ≤ (j : Int) := by omega
     have m1 : (j : Int) < (i : Int) := by omega
     have m2 : (j : Int) < (T.kids.length : Int) := by have := hM.out; omega
     have hwi : IntKind.i64.wrap ((j : Int) + 1) = (j : Int) + 1 := IntWalk.i64_in _ (by have := hM.out; omega); have hyD : DL[j - N]? = some y := (hDg.out (j - N) (by omega)).trans (by rw [show N + (j - N) = j from by omega]; exact hy)
     have hmem : y.name ∈ op.map (·.1) := by
      rw [hop.out]; exact List.mem_map.2 ⟨y, List.mem_of_getElem? (i := j - N) (by rw [List.getElem?_take_of_lt (by omega)]; exact hyD), rfl⟩
     obtain ⟨o, ho, he⟩ := List.mem_map.1 hmem; have hne : (y.name == d.name) = false := beq_eq_false_iff_ne.2 (fun e => List.any_eq_false.1 hany.out o ho (by rw [he, e]; simp)); clear hmem ho he hyD; replace hy := hid hy
     go_upto_region 13 with (fail)
     go_quiet (fail)
     go_wp2_with fail
     go_roundg (i + 1 - (j + 1))
     case measure => omega
     case rel => exact ⟨j + 1, by simp, by omega, by omega, rfl, hid (hwj.out.dn _)⟩
    ·obtain rfl : i = j := by omega
     have m1 : ¬ (i : Int) < (i : Int) := by omega
     have h21 := hid (h20.out.quiet hwj.out); have hc21 : Hid (Ch (Kr.own (Q.and wr.heap.size)) wd wj) := hid (hwj.out.mono (fun _ h => h.elim)); have hm21 : Hid (More wd (Kr.own (Q.and wr.heap.size)) (Kr.own (Q.and wr.heap.size))) := hid fun _ h => .inl h; clear hwj hji hNj hjl; have HC : Calls Try.prog 28 #[.pointer (some ⟨Q.c, 0, none⟩), nodeV d (.slice da dl dc)] wj fun en w' => en = .returned (.int .i64 p.1) ∧ CS wj (Q.and wr.heap.size) Kr (es) ops w' p.2 := Bound_any (Q := Q.and wr.heap.size) (Inf_any hol.out k) h21.out (by have := hM.out; omega) (CM.kids (Q := Q.and wr.heap.size) h20.out hkd.out hc21.out) hp_p.out; have b0 := CM.cell (Q := Q.and wr.heap.size) h20.out (Or.inr rfl) hc21.out B0.out; have b1 := CM.cell (Q := Q.and wr.heap.size) h20.out (Or.inr rfl) hc21.out B1.out; have b2 := CM.cell (Q := Q.and wr.heap.size) h20.out (Or.inr rfl) hc21.out B2.out; have b3 := CM.cell (Q := Q.and wr.heap.size) h20.out (Or.inr rfl) hc21.out B3.out; have b4 := CM.cell (Q := Q.and wr.heap.size) h20.out (Or.inr rfl) hc21.out B4.out; clear m1
     go_upto_region 16 with (go_at_call 28; refine HC.mono ?_; clear HC; rintro en w22 ⟨rfl, hg⟩)
     obtain ⟨K22, h22, hc22, hm22⟩ := CS.roll hg hc21 hm21; clear b0 b1 b2 b3 b4; have b1 := CM.cell (Q := Q.and wr.heap.size) h20.out (Or.inr rfl) hc22.out B1.out; have HC : Calls Try.prog 29 #[.pointer (some ⟨Q.c, 0, none⟩), .int .i64 p.1, .int .i64 d.pos] w22 fun en w' => en = .returned (.tuple #[]) ∧ Ch (fun _ => False) w22 w' := Big_ck (Q := Q.and wr.heap.size) d.pos h22.out hp_b.out
     go_upto_region 17 with (go_at_call 29; refine HC.mono ?_; clear HC; rintro en w23 ⟨rfl, hqb⟩)
     have h23 := hid (h22.out.quiet hqb); have hc23 := hid (hc22.out.trans hqb (fun _ h => h.elim)); have hm23 := hm22; clear b1 hqb; have HO : Calls Try.prog 26 #[.pointer (some ⟨Q.c, 0, none⟩)] w23 fun en w' => en = .returned (.bool true) ∧ w' = w23 := CM.okc (Q := Q.and wr.heap.size) h23.out
     go_upto_region 18 with (go_at_call 26; refine HO.mono ?_; clear HO; rintro en wk ⟨rfl, hwk⟩; obtain rfl := hwk.symm)
     have b2 := CM.cell (Q := Q.and wr.heap.size) h20.out (Or.inr rfl) hc23.out B2.out; have HC : Calls Try.prog 30 #[.pointer (some ⟨Q.c, 0, none⟩), str d.name, .int .i64 p.1] w23 fun en w' => ∃ t r, en = .returned (nmV (x, .map (some t), .map (some r))) ∧ SM w' t x.tv ∧ SM w' r x.rv ∧ w23.heap.size ≤ t ∧ w23.heap.size ≤ r ∧ x.all = true ∧ Ch (fun _ => False) w23 w' := General_any (Q := Q.and wr.heap.size) h23.out (by have := hM.out; omega) hp_x.out
     go_upto_region 19 with (go_at_call 30; refine HC.mono ?_; clear HC; rintro en wg ⟨ts, rs, rfl, t1, t2, z1, z2, -, hqg⟩)
     clear b2; have hqx := al_ch wg (xnB (x, .map (some ts), .map (some rs))); have hBx := hid (World.alloc_heap_new wg (xnB (x, .map (some ts), .map (some rs)))); have hNx := hid (CM.gen (Q := Q.and wr.heap.size) h23.out (t1.ch hqx (fun h => h)) (t2.ch hqx (fun h => h)) z1 z2); replace hqx := hqg.trans hqx (fun _ h => .inl h); change Code.wp _ _ _ _ (wg.alloc (xnB (x, .map (some ts), .map (some rs)))); generalize wg.alloc (xnB (x, .map (some ts), .map (some rs))) = w24 at *; have h24 := hid (h23.out.quiet hqx); have hc24 := hid (hc23.out.trans hqx (fun _ h => h.elim)); have hm24 := hm23; clear t1 t2 z1 z2 hqx hqg; obtain ⟨y0, y1, y2, y3, y4, y5⟩ := box_cells hBx.out; have HC : Calls Try.prog 31 #[.pointer (some ⟨Q.c, 0, none⟩), nmV (x, .map (some ts), .map (some rs))] w24 fun en w' => en = .returned (.tuple #[]) ∧ CS w24 (Q.and wr.heap.size) K22 (es ++ [(x, .map (some ts), .map (some rs))]) ops w' p.2 := With_any (Q := Q.and wr.heap.size) h24.out (by have := hM.out; omega) hNx.out
     go_upto_region 20 with (go_at_call 31; refine HC.mono ?_; clear HC; rintro en w25 ⟨rfl, hg⟩)
     obtain ⟨K25, h25, hc25, hm25⟩ := CS.roll hg hc24 hm24; clear y0 y1 y2 y3 y4 y5
     go_cut [12] from 36 to 106 (fun sB wx => ∃ (B : Nat) (os1 az1 : Value), sB = .pointer (some ⟨B, 0, none⟩) ∧ Hid (wx.heap[B]? = some (tyB s1.1.kind s1.1.num s1.1.row os1 az1) ∧ IsT wx s1.1 os1 az1 ∧ w25.heap.size ≤ B ∧ Ch (fun _ => False) w25 wx ∧ isSl os1 ∧ isSl az1))
     case first =>
      have c0 := hid (h25.out.cells.1); have hcc := Ch.drew (fun _ => False) w25; have hS0 : (fun w' => w'.cell? ⟨Q.c, 0, none⟩ = some (.pointer (some ⟨Q.b, 0, none⟩))) w25.drew := cell_keeps hcc c0.out; refine wp_region_held_drew (S := (fun w' => w'.cell? ⟨Q.c, 0, none⟩ = some (.pointer (some ⟨Q.b, 0, none⟩)))) (by kernel_rfl) (by first | trivial | ((try dsimp only); go_keep)) (fun hHeld => ?_); refine tk 0 rfl ?_; refine tk 1 rfl ?_; refine tk 2 rfl ?_; refine tk 3 rfl ?_; refine tk 4 rfl ?_; refine rd2 5 7 rfl (fun K hK => ?_) rfl (fun K hK => ?_)
      ·go_simp
       refine ((Fresh_any _).mono ?_); rintro en wf ⟨tT, tR, rfl, m1, m2, hne, hTz, hRz, hqF⟩; have hTz := Nat.le_trans hcc.size hTz; have hRz := Nat.le_trans hcc.size hRz; have hcc := hcc.trans hqF (fun _ h => h.elim); have hS5 : (fun w' => w'.cell? ⟨Q.c, 0, none⟩ = some (.pointer (some ⟨Q.b, 0, none⟩))) wf := cell_keeps hcc c0.out; replace hqF := hid hqF
       dsimp only
       clear hHeld; refine gn hK (fun hHeld => ?_); clear hK K; refine rd2 6 7 rfl (fun K hK => ?_) rfl (fun K hK => ?_)
       ·go_simp
        have mT := m1.lt; have mR := m2.lt; refine ((CM.tell (Q := Q.and wr.heap.size) h25.out hcc m1 m2 hne hTz hRz hp_t.out).mono ?_); rintro en wu ⟨os1, az1, rfl, hr1, hqT, hcc⟩; obtain ⟨⟨oa1, on1, oc1, ho1⟩, ⟨aa1, an1, ac1, ha1⟩⟩ := And.intro hr1.so hr1.sa; subst ho1 ha1; have hS5 : (fun w' => w'.cell? ⟨Q.c, 0, none⟩ = some (.pointer (some ⟨Q.b, 0, none⟩))) wu := cell_keeps hcc c0.out; have zz := hqT.size; replace hr1 := hid hr1; replace hqT := hid hqT; have hd1 : Hid (Ch (fun _ => False) wu wu) := Ch.refl _ _
        dsimp only
        clear hHeld; refine gn hK (fun hHeld => ?_); clear hK K; refine rd1 7 rfl (fun K hK => ?_)
        go_simp
        have hcc := hcc.al (tyB 0 0 0 (.slice none 0 0) (.slice none 0 0)); have hS5 : (fun w' => w'.cell? ⟨Q.c, 0, none⟩ = some (.pointer (some ⟨Q.b, 0, none⟩))) (wu.alloc (tyB 0 0 0 (.slice none 0 0) (.slice none 0 0))) := cell_keeps hcc c0.out; have hB := World.alloc_heap_new wu (tyB 0 0 0 (.slice none 0 0) (.slice none 0 0)); have hd1 := hid (hd1.out.al (tyB 0 0 0 (.slice none 0 0) (.slice none 0 0))); clear hHeld; refine gn hK (fun hHeld => ?_); clear hK K
        try simp only [al_size, drew_size] at hB
        generalize (wu.alloc (tyB 0 0 0 (.slice none 0 0) (.slice none 0 0))) = wx at *; have zx := hcc.size; obtain ⟨⟨u0, u1, u2, u3, u4⟩, uf⟩ := ty_cells hB; refine rd1 8 rfl (fun K hK => ?_)
        go_simp
        have hst := set5_ch (O := fun j => j = (wu.heap.size)) (k := s1.1.kind) (n := s1.1.num) (r := s1.1.row) (os := .slice oa1 on1 oc1) (az := .slice aa1 an1 ac1) (Ch.refl _ wx) (.inl rfl); have hcE := hcc.old hst (fun j e => by subst e; first | omega | (simp only [al_size, drew_size] at *; omega)); have hS5 : (fun w' => w'.cell? ⟨Q.c, 0, none⟩ = some (.pointer (some ⟨Q.b, 0, none⟩))) (set5 wx (wu.heap.size) s1.1.kind s1.1.num s1.1.row (.slice oa1 on1 oc1) (.slice aa1 an1 ac1)) := cell_keeps hcE c0.out; clear hHeld; refine gn hK (fun hHeld => ?_); clear hK K; refine wpAnyH_done (by kernel_rfl) ?_ _; clear hHeld; have hfT := set5_blk (k' := s1.1.kind) (n' := s1.1.num) (r' := s1.1.row) (os' := .slice oa1 on1 oc1) (az' := .slice aa1 an1 ac1) hB; have hf1 := hr1.out.skip (m := w25.heap.size) (B := (wu.heap.size)) (by first | omega | (simp only [al_size, drew_size] at *; omega)) (by first | omega | (simp only [al_size, drew_size] at *; omega)) ((hd1.out.mono (fun _ h => h.elim)).trans hst (fun _ h => .inl h)); have hfin := hid (And.intro hfT (And.intro (hf1.2.2 _ (fun _ _ _ _ => rfl)) (And.intro (show w25.heap.size ≤ (wu.heap.size) from (by first | omega | (simp only [al_size, drew_size] at *; omega))) (And.intro hcE (And.intro hf1.1 hf1.2.1))))); clear u0 u1 u2 u3 u4 uf hS5
        go_wp2_with fail
        go_meet
        case rel => exact ⟨_, _, _, by first | rfl | simp, hfin⟩
       ·go_simp
        have mT0 := m1.lt; have mR0 := m2.lt; have hcc := hcc.al (tyB 0 0 0 (.slice none 0 0) (.slice none 0 0)); have hS5 : (fun w' => w'.cell? ⟨Q.c, 0, none⟩ = some (.pointer (some ⟨Q.b, 0, none⟩))) (wf.alloc (tyB 0 0 0 (.slice none 0 0) (.slice none 0 0))) := cell_keeps hcc c0.out; have hB := World.alloc_heap_new wf (tyB 0 0 0 (.slice none 0 0) (.slice none 0 0)); have m1 := m1.keep (w' := (wf.alloc (tyB 0 0 0 (.slice none 0 0) (.slice none 0 0)))) (Below.heap_alloc _ _ _ m1.lt); have m2 := m2.keep (w' := (wf.alloc (tyB 0 0 0 (.slice none 0 0) (.slice none 0 0)))) (Below.heap_alloc _ _ _ m2.lt); have hBT := Nat.zero_le 0; have hBR := Nat.zero_le 0; clear hHeld; refine gn hK (fun hHeld => ?_); clear hK K; refine rd1 6 rfl (fun K hK => ?_)
        go_simp
        have mT := m1.lt; have mR := m2.lt; refine ((CM.tell (Q := Q.and wr.heap.size) h25.out hcc m1 m2 hne hTz hRz hp_t.out).mono ?_); rintro en wu ⟨os1, az1, rfl, hr1, hqT, hcc⟩; obtain ⟨⟨oa1, on1, oc1, ho1⟩, ⟨aa1, an1, ac1, ha1⟩⟩ := And.intro hr1.so hr1.sa; subst ho1 ha1; have hS5 : (fun w' => w'.cell? ⟨Q.c, 0, none⟩ = some (.pointer (some ⟨Q.b, 0, none⟩))) wu := cell_keeps hcc c0.out; have hB := (hqT.same _ (Array.getElem?_eq_some_iff.1 hB).1 (fun h => by rcases h with h | h <;> (try simp only [al_size, drew_size] at *) <;> omega)).trans hB; have zz := hqT.size; replace hr1 := hid hr1; replace hqT := hid hqT; have hd1 : Hid (Ch (fun _ => False) wu wu) := Ch.refl _ _
        dsimp only
        clear hHeld; refine gn hK (fun hHeld => ?_); clear hK K
        try simp only [al_size, drew_size] at hB
        generalize wu = wx at *; have zx := hcc.size; obtain ⟨⟨u0, u1, u2, u3, u4⟩, uf⟩ := ty_cells hB; refine rd1 8 rfl (fun K hK => ?_)
        go_simp
        have hst := set5_ch (O := fun j => j = (wf.heap.size)) (k := s1.1.kind) (n := s1.1.num) (r := s1.1.row) (os := .slice oa1 on1 oc1) (az := .slice aa1 an1 ac1) (Ch.refl _ wx) (.inl rfl); have hcE := hcc.old hst (fun j e => by subst e; first | omega | (simp only [al_size, drew_size] at *; omega)); have hS5 : (fun w' => w'.cell? ⟨Q.c, 0, none⟩ = some (.pointer (some ⟨Q.b, 0, none⟩))) (set5 wx (wf.heap.size) s1.1.kind s1.1.num s1.1.row (.slice oa1 on1 oc1) (.slice aa1 an1 ac1)) := cell_keeps hcE c0.out; clear hHeld; refine gn hK (fun hHeld => ?_); clear hK K; refine wpAnyH_done (by kernel_rfl) ?_ _; clear hHeld; have hfT := set5_blk (k' := s1.1.kind) (n' := s1.1.num) (r' := s1.1.row) (os' := .slice oa1 on1 oc1) (az' := .slice aa1 an1 ac1) hB; have hf1 := hr1.out.skip (m := w25.heap.size) (B := (wf.heap.size)) (by first | omega | (simp only [al_size, drew_size] at *; omega)) (by first | omega | (simp only [al_size, drew_size] at *; omega)) ((hd1.out.mono (fun _ h => h.elim)).trans hst (fun _ h => .inl h)); have hfin := hid (And.intro hfT (And.intro (hf1.2.2 _ (fun _ _ _ _ => rfl)) (And.intro (show w25.heap.size ≤ (wf.heap.size) from (by first | omega | (simp only [al_size, drew_size] at *; omega))) (And.intro hcE (And.intro hf1.1 hf1.2.1))))); clear u0 u1 u2 u3 u4 uf hS5
        go_wp2_with fail
        go_meet
        case rel => exact ⟨_, _, _, by first | rfl | simp, hfin⟩
      ·go_simp
       have hcc := hcc.al (tyB 0 0 0 (.slice none 0 0) (.slice none 0 0)); have hS5 : (fun w' => w'.cell? ⟨Q.c, 0, none⟩ = some (.pointer (some ⟨Q.b, 0, none⟩))) (w25.drew.alloc (tyB 0 0 0 (.slice none 0 0) (.slice none 0 0))) := cell_keeps hcc c0.out; have hB := World.alloc_heap_new w25.drew (tyB 0 0 0 (.slice none 0 0) (.slice none 0 0)); clear hHeld; refine gn hK (fun hHeld => ?_); clear hK K; refine rd1 5 rfl (fun K hK => ?_)
       go_simp
       refine ((Fresh_any _).mono ?_); rintro en wf ⟨tT, tR, rfl, m1, m2, hne, hTz, hRz, hqF⟩; have hBT := hTz; have hBR := hRz; have hTz := Nat.le_trans hcc.size hTz; have hRz := Nat.le_trans hcc.size hRz; have hcc := hcc.trans hqF (fun _ h => h.elim); have hS5 : (fun w' => w'.cell? ⟨Q.c, 0, none⟩ = some (.pointer (some ⟨Q.b, 0, none⟩))) wf := cell_keeps hcc c0.out; have hB := (hqF.same _ (Array.getElem?_eq_some_iff.1 hB).1 (fun h => h)).trans hB; replace hqF := hid hqF
       dsimp only
       clear hHeld; refine gn hK (fun hHeld => ?_); clear hK K; refine rd1 6 rfl (fun K hK => ?_)
       go_simp
       have mT := m1.lt; have mR := m2.lt; refine ((CM.tell (Q := Q.and wr.heap.size) h25.out hcc m1 m2 hne hTz hRz hp_t.out).mono ?_); rintro en wu ⟨os1, az1, rfl, hr1, hqT, hcc⟩; obtain ⟨⟨oa1, on1, oc1, ho1⟩, ⟨aa1, an1, ac1, ha1⟩⟩ := And.intro hr1.so hr1.sa; subst ho1 ha1; have hS5 : (fun w' => w'.cell? ⟨Q.c, 0, none⟩ = some (.pointer (some ⟨Q.b, 0, none⟩))) wu := cell_keeps hcc c0.out; have hB := (hqT.same _ (Array.getElem?_eq_some_iff.1 hB).1 (fun h => by rcases h with h | h <;> (try simp only [al_size, drew_size] at *) <;> omega)).trans hB; have zz := hqT.size; replace hr1 := hid hr1; replace hqT := hid hqT; have hd1 : Hid (Ch (fun _ => False) wu wu) := Ch.refl _ _
       dsimp only
       clear hHeld; refine gn hK (fun hHeld => ?_); clear hK K
       try simp only [al_size, drew_size] at hB
       generalize wu = wx at *; have zx := hcc.size; obtain ⟨⟨u0, u1, u2, u3, u4⟩, uf⟩ := ty_cells hB; refine rd1 8 rfl (fun K hK => ?_)
       go_simp
       have hst := set5_ch (O := fun j => j = (w25.heap.size)) (k := s1.1.kind) (n := s1.1.num) (r := s1.1.row) (os := .slice oa1 on1 oc1) (az := .slice aa1 an1 ac1) (Ch.refl _ wx) (.inl rfl); have hcE := hcc.old hst (fun j e => by subst e; first | omega | (simp only [al_size, drew_size] at *; omega)); have hS5 : (fun w' => w'.cell? ⟨Q.c, 0, none⟩ = some (.pointer (some ⟨Q.b, 0, none⟩))) (set5 wx (w25.heap.size) s1.1.kind s1.1.num s1.1.row (.slice oa1 on1 oc1) (.slice aa1 an1 ac1)) := cell_keeps hcE c0.out; clear hHeld; refine gn hK (fun hHeld => ?_); clear hK K; refine wpAnyH_done (by kernel_rfl) ?_ _; clear hHeld; have hfT := set5_blk (k' := s1.1.kind) (n' := s1.1.num) (r' := s1.1.row) (os' := .slice oa1 on1 oc1) (az' := .slice aa1 an1 ac1) hB; have hf1 := hr1.out.skip (m := w25.heap.size) (B := (w25.heap.size)) (by first | omega | (simp only [al_size, drew_size] at *; omega)) (by first | omega | (simp only [al_size, drew_size] at *; omega)) ((hd1.out.mono (fun _ h => h.elim)).trans hst (fun _ h => .inl h)); have hfin := hid (And.intro hfT (And.intro (hf1.2.2 _ (fun _ _ _ _ => rfl)) (And.intro (show w25.heap.size ≤ (w25.heap.size) from (by first | omega | (simp only [al_size, drew_size] at *; omega))) (And.intro hcE (And.intro hf1.1 hf1.2.1))))); clear u0 u1 u2 u3 u4 uf hS5
       go_wp2_with fail
       go_meet
       case rel => exact ⟨_, _, _, by first | rfl | simp, hfin⟩
     case rest =>
      obtain ⟨B, os1, az1, rfl, hm⟩ := hcut; generalize wc = w26 at *; obtain ⟨hmB, hmT, hmZ, hmC, ⟨oa1, on1, oc1, rfl⟩, ⟨aa1, an1, ac1, rfl⟩⟩ := hm.out; replace hmB := hid hmB; replace hmT := hid hmT; replace hmZ := hid hmZ; have h26 := hid (h25.out.quiet hmC); have hc26 := hid (hc25.out.trans hmC (fun _ h => h.elim)); have hm26 := hm25; have hDB := hid ((CM.kept (Q := Q.and wr.heap.size) h20.out (Or.inr rfl) hc26.out).trans hbd.out); have hrt := hid (ownsRow_keep hrow.out (w' := w26) (fun z hz => (hc26.out.same z (Nat.lt_of_lt_of_le (ownsRow_lt hrow.out hz) hqt.out.size) (hrb.out z hz).2).trans (hqt.out.same z (ownsRow_lt hrow.out hz) (fun h => h)))); have hnD : Hid (Value.ownBlock (.slice oa ps.length ocap) ≠ some wr.heap.size) := hid fun e => Nat.lt_irrefl _ (ownsRow_lt hrow.out e); have hnB : Hid (Value.ownBlock (.slice oa ps.length ocap) ≠ some B) := hid fun e => absurd (ownsRow_lt hrow.out e) (Nat.not_lt.2 (Nat.le_trans hqt.out.size (Nat.le_trans hc25.out.size hmZ.out))); have hpl : Hid (ps.length = i - N) := hid (by rw [← List.length_map (f := (·.1)), hps.out, hop.out, List.length_map, List.length_take, hDn.out, Nat.min_eq_left (Nat.sub_le_sub_right hiM N)]); have hpb : Hid (ps.length ≤ 1000000) := hid (by rw [hpl.out]; exact Nat.le_trans (Nat.sub_le i N) (Nat.le_trans hiM hMb.out)); have hS0 : (fun w' => w'.heap[wr.heap.size]? = some (nodeB d (.slice da dl dc)) ∧ w'.heap[B]? = some (tyB s1.1.kind s1.1.num s1.1.row (.slice oa1 on1 oc1) (.slice aa1 an1 ac1))) w26.drew := ⟨hDB.out, hmB.out⟩; have fd2 := fun (w' : World) (h : (fun w' => w'.heap[wr.heap.size]? = some (nodeB d (.slice da dl dc)) ∧ w'.heap[B]? = some (tyB s1.1.kind s1.1.num s1.1.row (.slice oa1 on1 oc1) (.slice aa1 an1 ac1))) w') => (node_cells h.1).2.2.1; have ft0 := fun (w' : World) (h : (fun w' => w'.heap[wr.heap.size]? = some (nodeB d (.slice da dl dc)) ∧ w'.heap[B]? = some (tyB s1.1.kind s1.1.num s1.1.row (.slice oa1 on1 oc1) (.slice aa1 an1 ac1))) w') => (ty_cells h.2).1.1; have ft1 := fun (w' : World) (h : (fun w' => w'.heap[wr.heap.size]? = some (nodeB d (.slice da dl dc)) ∧ w'.heap[B]? = some (tyB s1.1.kind s1.1.num s1.1.row (.slice oa1 on1 oc1) (.slice aa1 an1 ac1))) w') => (ty_cells h.2).1.2.1; have ft2 := fun (w' : World) (h : (fun w' => w'.heap[wr.heap.size]? = some (nodeB d (.slice da dl dc)) ∧ w'.heap[B]? = some (tyB s1.1.kind s1.1.num s1.1.row (.slice oa1 on1 oc1) (.slice aa1 an1 ac1))) w') => (ty_cells h.2).1.2.2.1; have ft3 := fun (w' : World) (h : (fun w' => w'.heap[wr.heap.size]? = some (nodeB d (.slice da dl dc)) ∧ w'.heap[B]? = some (tyB s1.1.kind s1.1.num s1.1.row (.slice oa1 on1 oc1) (.slice aa1 an1 ac1))) w') => (ty_cells h.2).1.2.2.2.1; have ft4 := fun (w' : World) (h : (fun w' => w'.heap[wr.heap.size]? = some (nodeB d (.slice da dl dc)) ∧ w'.heap[B]? = some (tyB s1.1.kind s1.1.num s1.1.row (.slice oa1 on1 oc1) (.slice aa1 an1 ac1))) w') => (ty_cells h.2).1.2.2.2.2
      go_upto_region 21 with (fail)
      refine wp_region_held_drew (S := (fun w' => w'.heap[wr.heap.size]? = some (nodeB d (.slice da dl dc)) ∧ w'.heap[B]? = some (tyB s1.1.kind s1.1.num s1.1.row (.slice oa1 on1 oc1) (.slice aa1 an1 ac1)))) (by kernel_rfl) (by first | trivial | ((try dsimp only); go_keep)) (fun hHeld => ?_); refine tk 0 rfl ?_; refine tk 1 rfl ?_; refine tk 2 rfl ?_; refine tk 3 rfl ?_; refine rd1 4 rfl (fun K hK => ?_)
      go_simp
      refine ((shB_any (hsh.out _ hmem.out).1 (hsh.out _ hmem.out).2 _ _ _ (hmT.out.past2 (Ch.drew (fun _ => False) w26))).mono ?_); rintro en ws ⟨sv, rfl, -, hqS⟩; replace hqS := hid ((Ch.drew (fun _ => False) w26).trans hqS.out (fun _ h => h.elim)); have hS5 : (fun w' => w'.heap[wr.heap.size]? = some (nodeB d (.slice da dl dc)) ∧ w'.heap[B]? = some (tyB s1.1.kind s1.1.num s1.1.row (.slice oa1 on1 oc1) (.slice aa1 an1 ac1))) ws := ⟨(hqS.out.same _ (Array.getElem?_eq_some_iff.1 hDB.out).1 (fun h => h)).trans hDB.out, (hqS.out.same _ (Array.getElem?_eq_some_iff.1 hmB.out).1 (fun h => h)).trans hmB.out⟩
      dsimp only
      clear hHeld; refine gn hK (fun hHeld => ?_); clear hK K; refine tk 5 rfl ?_; refine rd1 6 rfl (fun K hK => ?_)
      go_simp
      have hqA := hid (hqS.out.al (.cells #[str d.name, .string sv] 32)); have hS5 : (fun w' => w'.heap[wr.heap.size]? = some (nodeB d (.slice da dl dc)) ∧ w'.heap[B]? = some (tyB s1.1.kind s1.1.num s1.1.row (.slice oa1 on1 oc1) (.slice aa1 an1 ac1))) (ws.alloc (.cells #[str d.name, .string sv] 32)) := ⟨(hqA.out.same _ (Array.getElem?_eq_some_iff.1 hDB.out).1 (fun h => h)).trans hDB.out, (hqA.out.same _ (Array.getElem?_eq_some_iff.1 hmB.out).1 (fun h => h)).trans hmB.out⟩; clear hHeld; refine gn hK (fun hHeld => ?_); clear hK K; refine rd1 7 rfl (fun K hK => ?_); have hr2 := hid (ownsRow_keep hrt.out (w' := ws.alloc (.cells #[str d.name, .string sv] 32)) (fun z hz => hqA.out.same z (ownsRow_lt hrt.out hz) (fun h => h))); refine step_append rfl (.tmp 99) (.tmp 105) 25 rfl 32 _ 2 32 Try.underlying25 Try.infoTyping rfl (by decide) (.slice oa ps.length ocap) ps.length (tpsC ps) rfl hr2.out ⟨ws.heap.size, 0, none⟩ 1 1 (tpC (d.name, sv)) rfl rfl (new_cells ws (tpC (d.name, sv)) 32) (fun z hz => by simp only [tpC, List.mem_cons, List.not_mem_nil, or_false] at hz; rcases hz with rfl | rfl <;> rfl) (Nat.le_trans (Nat.add_le_add_right hpb.out 1) (by decide)) (Nat.le_trans (Nat.mul_le_mul_right 32 (Nat.add_le_add_right hpb.out 1)) (by decide)) ?_; intro v' w9 hrow9 hgr9 hblk9; obtain ⟨ug, ucap, rfl⟩ := ownsRow_succ hrow9; have hS5 : (fun w' => w'.heap[wr.heap.size]? = some (nodeB d (.slice da dl dc)) ∧ w'.heap[B]? = some (tyB s1.1.kind s1.1.num s1.1.row (.slice oa1 on1 oc1) (.slice aa1 an1 ac1))) w9 := ⟨(hgr9.block _ (Nat.lt_of_lt_of_le (Array.getElem?_eq_some_iff.1 hDB.out).1 hqA.out.size) (fun e => hnD.out e.symm)).trans ((hqA.out.same _ (Array.getElem?_eq_some_iff.1 hDB.out).1 (fun h => h)).trans hDB.out), (hgr9.block _ (Nat.lt_of_lt_of_le (Array.getElem?_eq_some_iff.1 hmB.out).1 hqA.out.size) (fun e => hnB.out e.symm)).trans ((hqA.out.same _ (Array.getElem?_eq_some_iff.1 hmB.out).1 (fun h => h)).trans hmB.out)⟩; replace hrow9 := hid hrow9; replace hgr9 := hid hgr9; replace hblk9 := hid hblk9; clear hr2; clear hHeld; refine gn hK (fun hHeld => ?_); clear hK K; refine tk 8 rfl ?_; refine wpAnyH_done (by kernel_rfl) ?_ _; clear hHeld; simp only [Act.put, List.getElem_toArray, List.getElem_cons_zero, List.getElem_cons_succ, List.setIfInBounds_toArray, List.set_cons_zero, List.set_cons_succ]; have hX := CM.less ((h26.out).quiet hqA.out); have hcX : Ch (K.own Q) w5 (ws.alloc (.cells #[str d.name, .string sv] 32)) := (hcR.out.two ((hqt.out.mono (O1 := Kr.own Q) (fun _ h => h.elim)).two hc26.out (fun _ h => .inl h)) hmR.out).trans hqA.out (fun _ h => h.elim); have hmX : More w5 (K.own Q) (K25.own Q) := hmR.out.two (fun k hk => (hm26.out k hk).imp id (fun h => Nat.le_trans hqt.out.size h)) hcR.out.size
      have hOX : ∀ z, Value.ownBlock (.slice oa ps.length ocap) = some z → w5.heap.size ≤ z ∧ ¬ K25.own Q z ∧ ∃ cs T fz, (ws.alloc (.cells #[str d.name, .string sv] 32)).heap[z]? = some (.cells cs T fz) ∧ T ≠ 9 := fun z hz => by
       obtain ⟨z1, z2⟩ := hrb.out z hz; refine ⟨z1, fun ho => ?_, ?_⟩
       ·rcases hm26.out z ho with h | h
        ·exact z2 h
        ·exact absurd (Nat.lt_of_lt_of_le (ownsRow_lt hrow.out hz) (Nat.le_trans hqt.out.size h)) (Nat.lt_irrefl _)
       ·obtain ⟨cs, fz, hb⟩ := row_blk hrt.out hz
        exact ⟨cs, 32, fz, (hqA.out.same z (ownsRow_lt hrt.out hz) (fun h => h)).trans hb, by decide⟩
      have hY := hid (CM.store2 h5.out hX hcX hmX hOX (Ch.grown (O := fun z => Value.ownBlock (.slice oa ps.length ocap) = some z) hgr9.out (fun _ h => h))); have hcY := hid (hcX.trans (Ch.grown (O := fun z => Value.ownBlock (.slice oa ps.length ocap) = some z) hgr9.out (fun _ h => h)) (fun z hz => .inr (hrb.out z hz).1))
      have hbY : Hid (∀ B, Value.ownBlock (.slice (some ⟨ug, 0, none⟩) (ps.length + 1) ucap) = some B → w5.heap.size ≤ B ∧ ¬ K25.own Q B) := hid fun z hz => by
       rcases hblk9.out with hb | hb
       ·obtain ⟨z1, z2, -⟩ := hOX z (hb ▸ hz)
        exact ⟨z1, z2⟩
       ·rw [hb] at hz
        obtain rfl := Option.some.inj hz; exact ⟨hcX.size, fun ho => Nat.lt_irrefl _ (hX.lt ho)⟩
      replace hmX := hid hmX; clear hX hcX hOX hS5
      go_wp2_with fail
      go_roundg (M + 1 - (i + 1))
      case measure => omega
      case rel =>
       refine ⟨i + 1, by simp, by omega, by omega, rfl, K25, es ++ [(x, .map (some ts), .map (some rs))], p.2, ps ++ [(d.name, sv)], op ++ [(d.name, s1.1)], hY, hcY, hmX, hid (by simpa [tpsC] using hrow9.out), hbY, hid (by simp [hps.out]), hid ?_, by simp; omega, hid ?_⟩
       ·rw [show i + 1 - N = (i - N) + 1 from by omega, List.take_add_one, hDd.out, List.map_append, List.map_append, hop.out]
        rfl
       ·rw [show i + 1 - N = (i - N) + 1 from by omega]
        simpa using hnext.out
  ·obtain rfl : M = i := by omega
   have k3 : ¬ (M : Int) < (M : Int) := by omega
   have hz := hdr.out; rw [List.drop_of_length_le (by rw [hDn.out]; exact Nat.le_refl _)] at hz; obtain rfl := Option.some.inj hz
   dsimp only at hp_z hp_r hsh ⊢
   obtain ⟨vm, Am, hkm⟩ := hkd5.out M mn hmM.out; replace hkm := CM.kids (Q := Q) h5.out hkm hcR.out; obtain ⟨ma, ml, mc, rfl⟩ := hkm.sl; obtain ⟨d0, d1, d2, d3, d4⟩ := Am.of_heap (CM.kept (Q := Q) h5.out hFg.out hcR.out); have k0 : (0 : Int) ≤ (M : Int) := by omega
   have k1 : (M : Int) < (T.kids.length : Int) := by have := hM.out; omega
   have hqt := al_ch wr (nodeB mn (.slice ma ml mc)); obtain ⟨b0, b1, b2, b3, b4⟩ := node_cells (World.alloc_heap_new wr (nodeB mn (.slice ma ml mc))); have B0 := hid b0; have B1 := hid b1; have B2 := hid b2; have B3 := hid b3; have B4 := hid b4; have h21 := hid (hR.out.box (T := mn) (v := (.slice ma ml mc))); replace hkm := hid (Kids.and (n := wr.heap.size) (hkm.quiet hqt)); replace hqt := hid hqt; have hmem : Hid (shB s.1 = true ∧ s.1.parts ≤ 1000000) := hid (hsh.out ([109, 97, 105, 110], s.1) (List.mem_append.2 (.inr (by simp)))); have hpl : Hid (ps.length = M - N) := hid (by rw [← List.length_map (f := (·.1)), hps.out, hop.out, List.length_map, List.length_take, hDn.out, Nat.min_self]); have hpb : Hid (ps.length ≤ 1000000) := hid (by rw [hpl.out]; exact Nat.le_trans (Nat.sub_le M N) hMb.out); clear hdr hz Am b0 b1 b2 b3 b4 HO; have HO := hR.out.okc
   go_upto_region 24 with (go_at_call 26; refine HO.mono ?_; clear HO; rintro en wk ⟨rfl, hwk⟩; obtain rfl := hwk.symm)
   go_upto_region 25 with (fail)
   clear d0 d1 d2 d3 d4 p3 p4; change Code.wp _ _ _ _ (wr.alloc (nodeB mn (.slice ma ml mc))); generalize wr.alloc (nodeB mn (.slice ma ml mc)) = wd at *; have hc21 : Hid (Ch (Kr.own (Q.and wr.heap.size)) wd wd) := hid (Ch.refl _ _); have hm21 : Hid (More wd (Kr.own (Q.and wr.heap.size)) (Kr.own (Q.and wr.heap.size))) := hid fun _ h => .inl h; have c0 := h21.out.cells.1; have HC := h21.out.ge.PutRow (v := .slice none 0 0) ⟨none, 0, rfl, .inl ⟨rfl, rfl, rfl⟩⟩ (fun k hk => by cases hk) hp_z.out
   go_upto_region 26 with (go_at_call 35; refine HC.mono ?_; clear HC; rintro en w22 ⟨rfl, hg⟩)
   obtain ⟨K22, h22, hc22, hm22⟩ := CS.roll (CM.graph h21.out hg) hc21 hm21; clear c0; have HC : Calls Try.prog 36 #[.pointer (some ⟨Q.c, 0, none⟩), nodeV mn (.slice ma ml mc), .int .i64 zz.1] w22 fun en w' => en = .returned (.int .i64 r.1) ∧ CS w22 (Q.and wr.heap.size) K22 (es) ops w' r.2 := Inf_any hol.out k (Q := Q.and wr.heap.size) h22.out (by have := hM.out; omega) (CM.kids (Q := Q.and wr.heap.size) h21.out hkm.out hc22.out) hp_r.out; have b0 := CM.cell (Q := Q.and wr.heap.size) h21.out (Or.inr rfl) hc22.out B0.out; have b1 := CM.cell (Q := Q.and wr.heap.size) h21.out (Or.inr rfl) hc22.out B1.out; have b2 := CM.cell (Q := Q.and wr.heap.size) h21.out (Or.inr rfl) hc22.out B2.out; have b3 := CM.cell (Q := Q.and wr.heap.size) h21.out (Or.inr rfl) hc22.out B3.out; have b4 := CM.cell (Q := Q.and wr.heap.size) h21.out (Or.inr rfl) hc22.out B4.out
   go_upto_region 27 with (go_at_call 36; refine HC.mono ?_; clear HC; rintro en w23 ⟨rfl, hg⟩)
   obtain ⟨K23, h23, hc23, hm23⟩ := CS.roll hg hc22 hm22; clear b0 b1 b2 b3 b4; have b1 := CM.cell (Q := Q.and wr.heap.size) h21.out (Or.inr rfl) hc23.out B1.out; have HC : Calls Try.prog 29 #[.pointer (some ⟨Q.c, 0, none⟩), .int .i64 r.1, .int .i64 mn.pos] w23 fun en w' => en = .returned (.tuple #[]) ∧ Ch (fun _ => False) w23 w' := Big_ck (Q := Q.and wr.heap.size) mn.pos h23.out hp_u.out
   go_upto_region 28 with (go_at_call 29; refine HC.mono ?_; clear HC; rintro en w24 ⟨rfl, hqb⟩)
   have h24 := hid (h23.out.quiet hqb); have hc24 := hid (hc23.out.trans hqb (fun _ h => h.elim)); have hm24 := hm23; clear b1 hqb; have HO : Calls Try.prog 26 #[.pointer (some ⟨Q.c, 0, none⟩)] w24 fun en w' => en = .returned (.bool true) ∧ w' = w24 := CM.okc (Q := Q.and wr.heap.size) h24.out
   go_upto_region 30 with (go_at_call 26; refine HO.mono ?_; clear HO; rintro en wk ⟨rfl, hwk⟩; obtain rfl := hwk.symm)
   go_cut [16] from 145 (fun sB wx => ∃ (B : Nat) (os1 az1 : Value), sB = .pointer (some ⟨B, 0, none⟩) ∧ Hid (wx.heap[B]? = some (tyB s.1.kind s.1.num s.1.row os1 az1) ∧ IsT wx s.1 os1 az1 ∧ w24.heap.size ≤ B ∧ Ch (fun _ => False) w24 wx ∧ isSl os1 ∧ isSl az1))
   case first =>
    have c0 := hid (h24.out.cells.1); have hcc := Ch.drew (fun _ => False) w24; have hS0 : (fun w' => w'.cell? ⟨Q.c, 0, none⟩ = some (.pointer (some ⟨Q.b, 0, none⟩))) w24.drew := cell_keeps hcc c0.out; refine wp_region_held_drew (S := (fun w' => w'.cell? ⟨Q.c, 0, none⟩ = some (.pointer (some ⟨Q.b, 0, none⟩)))) (by kernel_rfl) (by first | trivial | ((try dsimp only); go_keep)) (fun hHeld => ?_); refine tk 0 rfl ?_; refine tk 1 rfl ?_; refine tk 2 rfl ?_; refine tk 3 rfl ?_; refine tk 4 rfl ?_; refine rd2 5 7 rfl (fun K hK => ?_) rfl (fun K hK => ?_)
    ·go_simp
     refine ((Fresh_any _).mono ?_); rintro en wf ⟨tT, tR, rfl, m1, m2, hne, hTz, hRz, hqF⟩; have hTz := Nat.le_trans hcc.size hTz; have hRz := Nat.le_trans hcc.size hRz; have hcc := hcc.trans hqF (fun _ h => h.elim); have hS5 : (fun w' => w'.cell? ⟨Q.c, 0, none⟩ = some (.pointer (some ⟨Q.b, 0, none⟩))) wf := cell_keeps hcc c0.out; replace hqF := hid hqF
     dsimp only
     clear hHeld; refine gn hK (fun hHeld => ?_); clear hK K; refine rd2 6 7 rfl (fun K hK => ?_) rfl (fun K hK => ?_)
     ·go_simp
      have mT := m1.lt; have mR := m2.lt; refine ((CM.tell (Q := Q.and wr.heap.size) h24.out hcc m1 m2 hne hTz hRz hp_s.out).mono ?_); rintro en wu ⟨os1, az1, rfl, hr1, hqT, hcc⟩; obtain ⟨⟨oa1, on1, oc1, ho1⟩, ⟨aa1, an1, ac1, ha1⟩⟩ := And.intro hr1.so hr1.sa; subst ho1 ha1; have hS5 : (fun w' => w'.cell? ⟨Q.c, 0, none⟩ = some (.pointer (some ⟨Q.b, 0, none⟩))) wu := cell_keeps hcc c0.out; have zz := hqT.size; replace hr1 := hid hr1; replace hqT := hid hqT; have hd1 : Hid (Ch (fun _ => False) wu wu) := Ch.refl _ _
      dsimp only
      clear hHeld; refine gn hK (fun hHeld => ?_); clear hK K; refine rd1 7 rfl (fun K hK => ?_)
      go_simp
      have hcc := hcc.al (tyB 0 0 0 (.slice none 0 0) (.slice none 0 0)); have hS5 : (fun w' => w'.cell? ⟨Q.c, 0, none⟩ = some (.pointer (some ⟨Q.b, 0, none⟩))) (wu.alloc (tyB 0 0 0 (.slice none 0 0) (.slice none 0 0))) := cell_keeps hcc c0.out; have hB := World.alloc_heap_new wu (tyB 0 0 0 (.slice none 0 0) (.slice none 0 0)); have hd1 := hid (hd1.out.al (tyB 0 0 0 (.slice none 0 0) (.slice none 0 0))); clear hHeld; refine gn hK (fun hHeld => ?_); clear hK K
      try simp only [al_size, drew_size] at hB
      generalize (wu.alloc (tyB 0 0 0 (.slice none 0 0) (.slice none 0 0))) = wx at *; have zx := hcc.size; obtain ⟨⟨u0, u1, u2, u3, u4⟩, uf⟩ := ty_cells hB; refine rd1 8 rfl (fun K hK => ?_)
      go_simp
      have hst := set5_ch (O := fun j => j = (wu.heap.size)) (k := s.1.kind) (n := s.1.num) (r := s.1.row) (os := .slice oa1 on1 oc1) (az := .slice aa1 an1 ac1) (Ch.refl _ wx) (.inl rfl); have hcE := hcc.old hst (fun j e => by subst e; first | omega | (simp only [al_size, drew_size] at *; omega)); have hS5 : (fun w' => w'.cell? ⟨Q.c, 0, none⟩ = some (.pointer (some ⟨Q.b, 0, none⟩))) (set5 wx (wu.heap.size) s.1.kind s.1.num s.1.row (.slice oa1 on1 oc1) (.slice aa1 an1 ac1)) := cell_keeps hcE c0.out; clear hHeld; refine gn hK (fun hHeld => ?_); clear hK K; refine wpAnyH_done (by kernel_rfl) ?_ _; clear hHeld; have hfT := set5_blk (k' := s.1.kind) (n' := s.1.num) (r' := s.1.row) (os' := .slice oa1 on1 oc1) (az' := .slice aa1 an1 ac1) hB; have hf1 := hr1.out.skip (m := w24.heap.size) (B := (wu.heap.size)) (by first | omega | (simp only [al_size, drew_size] at *; omega)) (by first | omega | (simp only [al_size, drew_size] at *; omega)) ((hd1.out.mono (fun _ h => h.elim)).trans hst (fun _ h => .inl h)); have hfin := hid (And.intro hfT (And.intro (hf1.2.2 _ (fun _ _ _ _ => rfl)) (And.intro (show w24.heap.size ≤ (wu.heap.size) from (by first | omega | (simp only [al_size, drew_size] at *; omega))) (And.intro hcE (And.intro hf1.1 hf1.2.1))))); clear u0 u1 u2 u3 u4 uf hS5
      go_wp2_with fail
      go_meet
      case rel => exact ⟨_, _, _, by first | rfl | simp, hfin⟩
     ·go_simp
      have mT0 := m1.lt; have mR0 := m2.lt; have hcc := hcc.al (tyB 0 0 0 (.slice none 0 0) (.slice none 0 0)); have hS5 : (fun w' => w'.cell? ⟨Q.c, 0, none⟩ = some (.pointer (some ⟨Q.b, 0, none⟩))) (wf.alloc (tyB 0 0 0 (.slice none 0 0) (.slice none 0 0))) := cell_keeps hcc c0.out; have hB := World.alloc_heap_new wf (tyB 0 0 0 (.slice none 0 0) (.slice none 0 0)); have m1 := m1.keep (w' := (wf.alloc (tyB 0 0 0 (.slice none 0 0) (.slice none 0 0)))) (Below.heap_alloc _ _ _ m1.lt); have m2 := m2.keep (w' := (wf.alloc (tyB 0 0 0 (.slice none 0 0) (.slice none 0 0)))) (Below.heap_alloc _ _ _ m2.lt); have hBT := Nat.zero_le 0; have hBR := Nat.zero_le 0; clear hHeld; refine gn hK (fun hHeld => ?_); clear hK K; refine rd1 6 rfl (fun K hK => ?_)
      go_simp
      have mT := m1.lt; have mR := m2.lt; refine ((CM.tell (Q := Q.and wr.heap.size) h24.out hcc m1 m2 hne hTz hRz hp_s.out).mono ?_); rintro en wu ⟨os1, az1, rfl, hr1, hqT, hcc⟩; obtain ⟨⟨oa1, on1, oc1, ho1⟩, ⟨aa1, an1, ac1, ha1⟩⟩ := And.intro hr1.so hr1.sa; subst ho1 ha1; have hS5 : (fun w' => w'.cell? ⟨Q.c, 0, none⟩ = some (.pointer (some ⟨Q.b, 0, none⟩))) wu := cell_keeps hcc c0.out; have hB := (hqT.same _ (Array.getElem?_eq_some_iff.1 hB).1 (fun h => by rcases h with h | h <;> (try simp only [al_size, drew_size] at *) <;> omega)).trans hB; have zz := hqT.size; replace hr1 := hid hr1; replace hqT := hid hqT; have hd1 : Hid (Ch (fun _ => False) wu wu) := Ch.refl _ _
      dsimp only
      clear hHeld; refine gn hK (fun hHeld => ?_); clear hK K
      try simp only [al_size, drew_size] at hB
      generalize wu = wx at *; have zx := hcc.size; obtain ⟨⟨u0, u1, u2, u3, u4⟩, uf⟩ := ty_cells hB; refine rd1 8 rfl (fun K hK => ?_)
      go_simp
      have hst := set5_ch (O := fun j => j = (wf.heap.size)) (k := s.1.kind) (n := s.1.num) (r := s.1.row) (os := .slice oa1 on1 oc1) (az := .slice aa1 an1 ac1) (Ch.refl _ wx) (.inl rfl); have hcE := hcc.old hst (fun j e => by subst e; first | omega | (simp only [al_size, drew_size] at *; omega)); have hS5 : (fun w' => w'.cell? ⟨Q.c, 0, none⟩ = some (.pointer (some ⟨Q.b, 0, none⟩))) (set5 wx (wf.heap.size) s.1.kind s.1.num s.1.row (.slice oa1 on1 oc1) (.slice aa1 an1 ac1)) := cell_keeps hcE c0.out; clear hHeld; refine gn hK (fun hHeld => ?_); clear hK K; refine wpAnyH_done (by kernel_rfl) ?_ _; clear hHeld; have hfT := set5_blk (k' := s.1.kind) (n' := s.1.num) (r' := s.1.row) (os' := .slice oa1 on1 oc1) (az' := .slice aa1 an1 ac1) hB; have hf1 := hr1.out.skip (m := w24.heap.size) (B := (wf.heap.size)) (by first | omega | (simp only [al_size, drew_size] at *; omega)) (by first | omega | (simp only [al_size, drew_size] at *; omega)) ((hd1.out.mono (fun _ h => h.elim)).trans hst (fun _ h => .inl h)); have hfin := hid (And.intro hfT (And.intro (hf1.2.2 _ (fun _ _ _ _ => rfl)) (And.intro (show w24.heap.size ≤ (wf.heap.size) from (by first | omega | (simp only [al_size, drew_size] at *; omega))) (And.intro hcE (And.intro hf1.1 hf1.2.1))))); clear u0 u1 u2 u3 u4 uf hS5
      go_wp2_with fail
      go_meet
      case rel => exact ⟨_, _, _, by first | rfl | simp, hfin⟩
    ·go_simp
     have hcc := hcc.al (tyB 0 0 0 (.slice none 0 0) (.slice none 0 0)); have hS5 : (fun w' => w'.cell? ⟨Q.c, 0, none⟩ = some (.pointer (some ⟨Q.b, 0, none⟩))) (w24.drew.alloc (tyB 0 0 0 (.slice none 0 0) (.slice none 0 0))) := cell_keeps hcc c0.out; have hB := World.alloc_heap_new w24.drew (tyB 0 0 0 (.slice none 0 0) (.slice none 0 0)); clear hHeld; refine gn hK (fun hHeld => ?_); clear hK K; refine rd1 5 rfl (fun K hK => ?_)
     go_simp
     refine ((Fresh_any _).mono ?_); rintro en wf ⟨tT, tR, rfl, m1, m2, hne, hTz, hRz, hqF⟩; have hBT := hTz; have hBR := hRz; have hTz := Nat.le_trans hcc.size hTz; have hRz := Nat.le_trans hcc.size hRz; have hcc := hcc.trans hqF (fun _ h => h.elim); have hS5 : (fun w' => w'.cell? ⟨Q.c, 0, none⟩ = some (.pointer (some ⟨Q.b, 0, none⟩))) wf := cell_keeps hcc c0.out; have hB := (hqF.same _ (Array.getElem?_eq_some_iff.1 hB).1 (fun h => h)).trans hB; replace hqF := hid hqF
     dsimp only
     clear hHeld; refine gn hK (fun hHeld => ?_); clear hK K; refine rd1 6 rfl (fun K hK => ?_)
     go_simp
     have mT := m1.lt; have mR := m2.lt; refine ((CM.tell (Q := Q.and wr.heap.size) h24.out hcc m1 m2 hne hTz hRz hp_s.out).mono ?_); rintro en wu ⟨os1, az1, rfl, hr1, hqT, hcc⟩; obtain ⟨⟨oa1, on1, oc1, ho1⟩, ⟨aa1, an1, ac1, ha1⟩⟩ := And.intro hr1.so hr1.sa; subst ho1 ha1; have hS5 : (fun w' => w'.cell? ⟨Q.c, 0, none⟩ = some (.pointer (some ⟨Q.b, 0, none⟩))) wu := cell_keeps hcc c0.out; have hB := (hqT.same _ (Array.getElem?_eq_some_iff.1 hB).1 (fun h => by rcases h with h | h <;> (try simp only [al_size, drew_size] at *) <;> omega)).trans hB; have zz := hqT.size; replace hr1 := hid hr1; replace hqT := hid hqT; have hd1 : Hid (Ch (fun _ => False) wu wu) := Ch.refl _ _
     dsimp only
     clear hHeld; refine gn hK (fun hHeld => ?_); clear hK K
     try simp only [al_size, drew_size] at hB
     generalize wu = wx at *; have zx := hcc.size; obtain ⟨⟨u0, u1, u2, u3, u4⟩, uf⟩ := ty_cells hB; refine rd1 8 rfl (fun K hK => ?_)
     go_simp
     have hst := set5_ch (O := fun j => j = (w24.heap.size)) (k := s.1.kind) (n := s.1.num) (r := s.1.row) (os := .slice oa1 on1 oc1) (az := .slice aa1 an1 ac1) (Ch.refl _ wx) (.inl rfl); have hcE := hcc.old hst (fun j e => by subst e; first | omega | (simp only [al_size, drew_size] at *; omega)); have hS5 : (fun w' => w'.cell? ⟨Q.c, 0, none⟩ = some (.pointer (some ⟨Q.b, 0, none⟩))) (set5 wx (w24.heap.size) s.1.kind s.1.num s.1.row (.slice oa1 on1 oc1) (.slice aa1 an1 ac1)) := cell_keeps hcE c0.out; clear hHeld; refine gn hK (fun hHeld => ?_); clear hK K; refine wpAnyH_done (by kernel_rfl) ?_ _; clear hHeld; have hfT := set5_blk (k' := s.1.kind) (n' := s.1.num) (r' := s.1.row) (os' := .slice oa1 on1 oc1) (az' := .slice aa1 an1 ac1) hB; have hf1 := hr1.out.skip (m := w24.heap.size) (B := (w24.heap.size)) (by first | omega | (simp only [al_size, drew_size] at *; omega)) (by first | omega | (simp only [al_size, drew_size] at *; omega)) ((hd1.out.mono (fun _ h => h.elim)).trans hst (fun _ h => .inl h)); have hfin := hid (And.intro hfT (And.intro (hf1.2.2 _ (fun _ _ _ _ => rfl)) (And.intro (show w24.heap.size ≤ (w24.heap.size) from (by first | omega | (simp only [al_size, drew_size] at *; omega))) (And.intro hcE (And.intro hf1.1 hf1.2.1))))); clear u0 u1 u2 u3 u4 uf hS5
     go_wp2_with fail
     go_meet
     case rel => exact ⟨_, _, _, by first | rfl | simp, hfin⟩
   case rest =>
    obtain ⟨B, os1, az1, rfl, hm⟩ := hcut; generalize wc = w25 at *; obtain ⟨hmB, hmT, hmZ, hmC, ⟨oa1, on1, oc1, rfl⟩, ⟨aa1, an1, ac1, rfl⟩⟩ := hm.out; replace hmB := hid hmB; replace hmT := hid hmT; replace hmZ := hid hmZ; have h25 := hid (h24.out.quiet hmC); have hc25 := hid (hc24.out.trans hmC (fun _ h => h.elim)); have hm25 := hm24; have hrt := hid (ownsRow_keep hrow.out (w' := w25) (fun z hz => (hc25.out.same z (Nat.lt_of_lt_of_le (ownsRow_lt hrow.out hz) hqt.out.size) (hrb.out z hz).2).trans (hqt.out.same z (ownsRow_lt hrow.out hz) (fun h => h)))); have hw5z := hw5.out.size; have hcW : Hid (Ch (K.own Q) w5 w25) := hid (hcR.out.two ((hqt.out.mono (O1 := Kr.own Q) (fun _ h => h.elim)).two hc25.out (fun _ h => .inl h)) hmR.out); have hE1 := hid ((CM.kept (Q := Q) h5.out (hF5.out _ (.inr (.inr (.inl rfl)))) hcW.out).trans hb1d.out); have hE2 := hid ((CM.kept (Q := Q) h5.out (hF5.out _ (.inr (.inr (.inr rfl)))) hcW.out).trans hb2d.out); have hz52 : Hid ((w.heap.size + 1 + 1) < w5.heap.size) := hid (Array.getElem?_eq_some_iff.1 hb2d.out).1; have hnB : Hid (Value.ownBlock (.slice oa ps.length ocap) ≠ some B) := hid fun e => absurd (ownsRow_lt hrow.out e) (Nat.not_lt.2 (Nat.le_trans hqt.out.size (Nat.le_trans hc24.out.size hmZ.out))); have hn1 : Hid (Value.ownBlock (.slice oa ps.length ocap) ≠ some (w.heap.size + 1)) := hid fun e => absurd (Nat.lt_of_lt_of_le (Nat.lt_of_succ_lt hz52.out) (hrb.out _ e).1) (Nat.lt_irrefl _); have hn2 : Hid (Value.ownBlock (.slice oa ps.length ocap) ≠ some (w.heap.size + 1 + 1)) := hid fun e => absurd (Nat.lt_of_lt_of_le hz52.out (hrb.out _ e).1) (Nat.lt_irrefl _); have hwB : Hid (w5.heap.size ≤ B) := hid (Nat.le_trans hcR.out.size (Nat.le_trans hqt.out.size (Nat.le_trans hc24.out.size hmZ.out))); have hB1 : Hid (B ≠ (w.heap.size + 1)) := hid fun e => absurd (Nat.lt_of_lt_of_le (Nat.lt_of_succ_lt hz52.out) (e ▸ hwB.out)) (Nat.lt_irrefl _); have hB2 : Hid (B ≠ (w.heap.size + 1 + 1)) := hid fun e => absurd (Nat.lt_of_lt_of_le hz52.out (e ▸ hwB.out)) (Nat.lt_irrefl _); have hS0 : (fun w' => w'.heap[B]? = some (tyB s.1.kind s.1.num s.1.row (.slice oa1 on1 oc1) (.slice aa1 an1 ac1))) w25.drew := hmB.out; have ft0 := fun (w' : World) (h : (fun w' => w'.heap[B]? = some (tyB s.1.kind s.1.num s.1.row (.slice oa1 on1 oc1) (.slice aa1 an1 ac1))) w') => (ty_cells h).1.1; have ft1 := fun (w' : World) (h : (fun w' => w'.heap[B]? = some (tyB s.1.kind s.1.num s.1.row (.slice oa1 on1 oc1) (.slice aa1 an1 ac1))) w') => (ty_cells h).1.2.1; have ft2 := fun (w' : World) (h : (fun w' => w'.heap[B]? = some (tyB s.1.kind s.1.num s.1.row (.slice oa1 on1 oc1) (.slice aa1 an1 ac1))) w') => (ty_cells h).1.2.2.1; have ft3 := fun (w' : World) (h : (fun w' => w'.heap[B]? = some (tyB s.1.kind s.1.num s.1.row (.slice oa1 on1 oc1) (.slice aa1 an1 ac1))) w') => (ty_cells h).1.2.2.2.1; have ft4 := fun (w' : World) (h : (fun w' => w'.heap[B]? = some (tyB s.1.kind s.1.num s.1.row (.slice oa1 on1 oc1) (.slice aa1 an1 ac1))) w') => (ty_cells h).1.2.2.2.2
    go_upto_region 31 with (fail)
    refine wp_region_held_drew (S := (fun w' => w'.heap[B]? = some (tyB s.1.kind s.1.num s.1.row (.slice oa1 on1 oc1) (.slice aa1 an1 ac1)))) (by kernel_rfl) (by first | trivial | ((try dsimp only); go_keep)) (fun hHeld => ?_); refine tk 0 rfl ?_; refine tk 1 rfl ?_; refine tk 6 rfl ?_; refine tk 7 rfl ?_; refine rd1 2 rfl (fun K hK => ?_)
    go_simp
    refine ((shB_any hmem.out.1 hmem.out.2 _ _ _ (hmT.out.past2 (Ch.drew (fun _ => False) w25))).mono ?_); rintro en ws ⟨sv, rfl, -, hqS⟩; replace hqS := hid ((Ch.drew (fun _ => False) w25).trans hqS.out (fun _ h => h.elim)); have hS5 : (fun w' => w'.heap[B]? = some (tyB s.1.kind s.1.num s.1.row (.slice oa1 on1 oc1) (.slice aa1 an1 ac1))) ws := (hqS.out.same _ (Array.getElem?_eq_some_iff.1 hmB.out).1 (fun h => h)).trans hmB.out
    dsimp only
    clear hHeld; refine gn hK (fun hHeld => ?_); clear hK K; refine tk 3 rfl ?_; refine rd1 4 rfl (fun K hK => ?_)
    go_simp
    have hqA := hid (hqS.out.al (.cells #[str [109, 97, 105, 110], .string sv] 32)); have hS5 : (fun w' => w'.heap[B]? = some (tyB s.1.kind s.1.num s.1.row (.slice oa1 on1 oc1) (.slice aa1 an1 ac1))) (ws.alloc (.cells #[str [109, 97, 105, 110], .string sv] 32)) := (hqA.out.same _ (Array.getElem?_eq_some_iff.1 hmB.out).1 (fun h => h)).trans hmB.out; clear hHeld; refine gn hK (fun hHeld => ?_); clear hK K; refine rd1 5 rfl (fun K hK => ?_); have hr2 := hid (ownsRow_keep hrt.out (w' := ws.alloc (.cells #[str [109, 97, 105, 110], .string sv] 32)) (fun z hz => hqA.out.same z (ownsRow_lt hrt.out hz) (fun h => h))); refine step_append rfl (.tmp 152) (.tmp 156) 25 rfl 32 _ 2 32 Try.underlying25 Try.infoTyping rfl (by decide) (.slice oa ps.length ocap) ps.length (tpsC ps) rfl hr2.out ⟨ws.heap.size, 0, none⟩ 1 1 (tpC ([109, 97, 105, 110], sv)) rfl rfl (new_cells ws (tpC ([109, 97, 105, 110], sv)) 32) (fun z hz => by simp only [tpC, List.mem_cons, List.not_mem_nil, or_false] at hz; rcases hz with rfl | rfl <;> rfl) (Nat.le_trans (Nat.add_le_add_right hpb.out 1) (by decide)) (Nat.le_trans (Nat.mul_le_mul_right 32 (Nat.add_le_add_right hpb.out 1)) (by decide)) ?_; intro v' w9 hrow9 hgr9 hblk9; obtain ⟨ug, ucap, rfl⟩ := ownsRow_succ hrow9; have hS5 : (fun w' => w'.heap[B]? = some (tyB s.1.kind s.1.num s.1.row (.slice oa1 on1 oc1) (.slice aa1 an1 ac1))) w9 := (hgr9.block _ (Nat.lt_of_lt_of_le (Array.getElem?_eq_some_iff.1 hmB.out).1 hqA.out.size) (fun e => hnB.out e.symm)).trans ((hqA.out.same _ (Array.getElem?_eq_some_iff.1 hmB.out).1 (fun h => h)).trans hmB.out); have h91 := (hgr9.block _ (Nat.lt_of_lt_of_le (Array.getElem?_eq_some_iff.1 hE1.out).1 hqA.out.size) (fun e => hn1.out e.symm)).trans ((hqA.out.same _ (Array.getElem?_eq_some_iff.1 hE1.out).1 (fun h => h)).trans hE1.out); have h92 := (hgr9.block _ (Nat.lt_of_lt_of_le (Array.getElem?_eq_some_iff.1 hE2.out).1 hqA.out.size) (fun e => hn2.out e.symm)).trans ((hqA.out.same _ (Array.getElem?_eq_some_iff.1 hE2.out).1 (fun h => h)).trans hE2.out); obtain ⟨⟨u0, u1, u2, u3, u4⟩, uf⟩ := ty_cells h91; replace hrow9 := hid hrow9; replace hgr9 := hid hgr9; replace hblk9 := hid hblk9; replace h91 := hid h91; replace h92 := hid h92; clear hr2; clear hHeld; refine gn hK (fun hHeld => ?_); clear hK K; refine tk 8 rfl ?_; refine rd1 9 rfl (fun K hK => ?_)
    go_simp
    have hst := set5_ch (O := fun j => j = (w.heap.size + 1)) (k := s.1.kind) (n := s.1.num) (r := s.1.row) (os := .slice oa1 on1 oc1) (az := .slice aa1 an1 ac1) (Ch.refl _ w9) (.inl rfl); have hS9 := (hst.same B (Array.getElem?_eq_some_iff.1 hS5).1 hB1.out).trans hS5; clear hS5; have hS5 : (fun w' => w'.heap[B]? = some (tyB s.1.kind s.1.num s.1.row (.slice oa1 on1 oc1) (.slice aa1 an1 ac1))) (set5 w9 (w.heap.size + 1) s.1.kind s.1.num s.1.row (.slice oa1 on1 oc1) (.slice aa1 an1 ac1)) := hS9; clear hS9 u0 u1 u2 u3 u4 uf; have hx1 := hid (set5_blk (k' := s.1.kind) (n' := s.1.num) (r' := s.1.row) (os' := .slice oa1 on1 oc1) (az' := .slice aa1 an1 ac1) h91.out); have hx2 := hid ((hst.same (w.heap.size + 1 + 1) (Array.getElem?_eq_some_iff.1 h92.out).1 (fun e => by omega)).trans h92.out); change K _ (set5 w9 (w.heap.size + 1) s.1.kind s.1.num s.1.row (.slice oa1 on1 oc1) (.slice aa1 an1 ac1)); generalize set5 w9 (w.heap.size + 1) s.1.kind s.1.num s.1.row (.slice oa1 on1 oc1) (.slice aa1 an1 ac1) = wv at *; have z0 : wv.cell? ⟨(w.heap.size + 1 + 1), 0, none⟩ = some (.int .i64 0) := by unfold World.cell?; rw [hx2.out]; rfl
    have z1 : wv.cell? ⟨(w.heap.size + 1 + 1), 1, none⟩ = some (.int .i64 0) := by unfold World.cell?; rw [hx2.out]; rfl
    have zf : ∀ i, wv.frozen? ⟨(w.heap.size + 1 + 1), i, none⟩ = false := fun i => by unfold World.frozen?; rw [hx2.out]; simp
    clear hHeld; refine gn hK (fun hHeld => ?_); clear hK K; refine rd1 10 rfl (fun K hK => ?_)
    go_simp
    have hst2 := (Ch.setCell (O := fun j => j = (w.heap.size + 1 + 1)) wv ⟨(w.heap.size + 1 + 1), 0, none⟩ (.int .i64 0) rfl).set (a := ⟨(w.heap.size + 1 + 1), 1, none⟩) rfl (.int .i64 0); have hSv := (hst2.same B (Array.getElem?_eq_some_iff.1 hS5).1 hB2.out).trans hS5; clear hS5; have hS5 : (fun w' => w'.heap[B]? = some (tyB s.1.kind s.1.num s.1.row (.slice oa1 on1 oc1) (.slice aa1 an1 ac1))) ((wv.setCell ⟨(w.heap.size + 1 + 1), 0, none⟩ (.int .i64 0)).setCell ⟨(w.heap.size + 1 + 1), 1, none⟩ (.int .i64 0)) := hSv; clear hSv z0 z1 zf; clear hHeld; refine gn hK (fun hHeld => ?_); clear hK K; refine wpAnyH_done (by kernel_rfl) ?_ _; clear hHeld
    try simp only [Act.put, List.getElem_toArray, List.getElem_cons_zero, List.getElem_cons_succ, List.setIfInBounds_toArray, List.set_cons_zero, List.set_cons_succ]
    have hy2 := blk_set (i := 1) (v := .int .i64 0) (blk_set (i := 0) (v := .int .i64 0) hx2.out); have hy1 := (hst2.same (w.heap.size + 1) (Array.getElem?_eq_some_iff.1 hx1.out).1 (fun e => by omega)).trans hx1.out; clear hS5; generalize World.setCell (World.setCell wv _ _) _ _ = wE at *; replace hy2 : wE.heap[(w.heap.size + 1 + 1)]? = some (.cells #[.int .i64 0, .int .i64 0] 28) := hy2.trans (by simp); obtain ⟨⟨v0, v1, v2, v3, v4⟩, -⟩ := ty_cells hy1; have z0 : wE.cell? ⟨(w.heap.size + 1 + 1), 0, none⟩ = some (.int .i64 0) := by unfold World.cell?; rw [hy2]; rfl
    have z1 : wE.cell? ⟨(w.heap.size + 1 + 1), 1, none⟩ = some (.int .i64 0) := by unfold World.cell?; rw [hy2]; rfl
    replace hy1 := hid hy1; replace hy2 := hid hy2
    have hug : w5.heap.size ≤ ug := by
     rcases hblk9.out with hb | hb
     ·exact (hrb.out ug (hb.symm.trans rfl)).1
     ·rw [show ug = _ from Option.some.inj hb]
      exact Nat.le_trans hcW.out.size hqA.out.size
    have hrE := hid (ownsRow_keep (w' := wE) hrow9.out (fun z hz => by
     obtain rfl : ug = z := Option.some.inj hz; have hl := ownsRow_lt hrow9.out hz
     exact (hst2.same _ (Nat.lt_of_lt_of_le hl hst.size) (fun e => absurd (Nat.lt_of_lt_of_le hz52.out (e ▸ hug)) (Nat.lt_irrefl _))).trans (hst.same _ hl (fun e => absurd (Nat.lt_of_lt_of_le (Nat.lt_of_succ_lt hz52.out) (e ▸ hug)) (Nat.lt_irrefl _)))))
    have hcE : Hid (Ch (fun _ => False) w wE) := hid (((hw5.out.old ((hcW.out.trans hqA.out (fun _ h => h.elim)).trans (Ch.grown (O := fun z => Value.ownBlock (.slice oa ps.length ocap) = some z) hgr9.out (fun _ h => h)) (fun z hz => .inr (hrb.out z hz).1)) (fun z hz => Nat.le_trans (Nat.le_add_right _ 3) (hK5.out z hz))).old hst (fun z e => by rw [e]; exact Nat.le_succ _)).old hst2 (fun z e => by rw [e]; exact Nat.le_trans (Nat.le_succ _) (Nat.le_succ _))); have hugw := hid (Nat.le_trans hw5.out.size hug); clear hst hst2 hug
    go_wp2_with fail
    refine bodyPost_ret (v := .tuple #[.slice (some ⟨ug, 0, none⟩) (ps.length + 1) ucap, tyV s.1.kind s.1.num s.1.row (.slice oa1 on1 oc1) (.slice aa1 an1 ac1), .agg #[.int .i64 0, .int .i64 0]]) (by simp [results, Try.results13, go_sem, v0, v1, v2, v3, v4, z0, z1]) rfl ?_; refine ⟨.slice (some ⟨ug, 0, none⟩) (ps.length + 1) ucap, s.1.kind, s.1.num, s.1.row, .slice oa1 on1 oc1, .slice aa1 an1 ac1, rfl, ⟨_, _, _, rfl⟩, ⟨_, _, _, rfl⟩, ps ++ [([109, 97, 105, 110], sv)], by simp [hps.out], by simpa [tpsC] using hrE.out, hcE.out, fun z hz => by cases hz; exact hugw.out⟩
end Go.Proofs.Ytejciampbnfbhaa
