import Derived.Test.YtejciampbnfbhaaMJzM
import Derived.Test.YtejciampbnfbhaaMJzG
import Derived.Test.YtejciampbnfbhaaMJzA
set_option linter.unusedVariables false
set_option linter.unusedSimpArgs false
set_option maxRecDepth 100000
set_option maxHeartbeats 16000000
namespace Go.Proofs.Ytejciampbnfbhaa
open Go.RowKit Ie
section
variable {w : World} {Q : Cc} {K : Ck} {es : Env} {ops : List Opr} {e e' : E} {T : Sy.Tr} {v : Value} {row m : Int}
theorem Handle_any {f k : Nat} (ih : InfOK f ops k) (hol : OpsOK ops) {a z c : Sy.Tr} {l l2 : List Sy.Tr} (h : CM w Q K es ops e) (hl : es.length + 2 * (k + 1) < 1000000) (hv : Kids w Q.F v T.kids) (hks : T.kids = a :: z :: l) (hkz : z.kids = c :: l2) (hall : ∀ t ∈ l, ops.any (fun o => o.name == t.name) = true) (hnd : (l.map (·.name)).Nodup)
  (hp : ((e.putRow (l.map (·.name)) row).bind fun i => (exprE f ops k (es.map (·.1)) i.2 a i.1).bind fun p => (exprE f ops k (es.map (·.1) ++ [plain z.name p.1]) p.2 c row).bind fun q => (clausesE f ops (exprE f ops k) (es.map (·.1)) (T.num == 1) p.1 q.1 row i.1 l q.2).map fun e => (q.1, e)) = some (m, e')) :
  Calls Try.prog 69 #[.pointer (some ⟨Q.c, 0, none⟩), nodeV T v, .int .i64 row] w fun en w' => en = .returned (.int .i64 m) ∧ CS w Q K es ops w' e' := by
 obtain ⟨i0, hp_i, g0⟩ := Option.bind_eq_some_iff.1 hp
 obtain ⟨p, hp_p, g1⟩ := Option.bind_eq_some_iff.1 g0
 obtain ⟨q, hp_q, g2⟩ := Option.bind_eq_some_iff.1 g1
 obtain ⟨e9, hp_c, g3⟩ := Option.map_eq_some_iff.1 g2
 obtain ⟨rfl, rfl⟩ := Prod.mk.inj g3
 clear g0 g1 g2 g3
 have hll : l.length < 1000000 := Nat.lt_of_le_of_lt (ops_len hall hnd) hol.1
 rw [hks] at hv
 obtain ⟨g, cp, hvv, hFg, hn⟩ := hv.cons (by simp)
 simp only [List.length_cons] at hvv
 subst hvv
 have j0 : (0 : Int) < (l.length : Int) + 1 + 1 := by omega
 have j1 : (1 : Int) < (l.length : Int) + 1 + 1 := by omega
 obtain ⟨va, Aa, hka⟩ := hn 0 a rfl
 obtain ⟨vz, Az, hkz2⟩ := hn 1 z rfl
 rw [hkz] at hkz2
 obtain ⟨gz, cpz, hvz, hFz, hnz⟩ := hkz2.cons (by simp)
 simp only [List.length_cons] at hvz
 subst hvz
 have jz : (0 : Int) < (l2.length : Int) + 1 := by omega
 obtain ⟨vc, Ac, hkc⟩ := hnz 0 c rfl
 have hkid : Hid (∀ i t, l[i]? = some t → ∃ kt, NodeAt w g ((i + 2) * 5) t kt ∧ Kids w Q.F kt t.kids) := hid fun i t ht => hn (i + 2) t (by simpa using ht)
 have hb := World.alloc_heap_new w (nodeB T (.slice (some ⟨g, 0, none⟩) (l.length + 1 + 1) cp))
 have hq := hid (al_ch w (nodeB T (.slice (some ⟨g, 0, none⟩) (l.length + 1 + 1) cp)))
 have h1 := hid (h.box (T := T) (v := (.slice (some ⟨g, 0, none⟩) (l.length + 1 + 1) cp)))
 obtain ⟨p0, p1, p2, p3, p4⟩ := node_cells hb
 have P3 := hid p3
 have P4 := hid p4
 have c0 := h1.out.c0
 replace Aa := hid (Aa.of_heap (hq.out.same g Aa.lt (fun h => h)))
 replace Az := hid (Az.of_heap (hq.out.same g Az.lt (fun h => h)))
 replace Ac := hid (Ac.of_heap (hq.out.same gz Ac.lt (fun h => h)))
 replace hka := hid (Kids.and (n := w.heap.size) (hka.quiet hq.out))
 replace hkc := hid (Kids.and (n := w.heap.size) (hkc.quiet hq.out))
 replace hkid : Hid (∀ i t, l[i]? = some t → ∃ kt, NodeAt (w.alloc (nodeB T (.slice (some ⟨g, 0, none⟩) (l.length + 1 + 1) cp))) g ((i + 2) * 5) t kt ∧ Kids (w.alloc (nodeB T (.slice (some ⟨g, 0, none⟩) (l.length + 1 + 1) cp))) (Q.and w.heap.size).F kt t.kids) := hid fun i t ht => by
  obtain ⟨kt, h2, h3⟩ := hkid.out i t ht
  exact ⟨kt, h2.of_heap (hq.out.same g h2.lt (fun h => h)), Kids.and (n := w.heap.size) (h3.quiet hq.out)⟩
 replace hFg := hid hFg
 replace hFz := hid hFz
 replace hall := hid hall
 replace hnd := hid hnd
 replace hp_i := hid hp_i
 replace hp_p := hid hp_p
 replace hp_q := hid hp_q
 replace hp_c := hid hp_c
 replace hol := hid hol
 clear hb hks hkz hkz2 hnz hp h hv hn p0 p1 p2 p3
 go_enter Try.func69, Try.ntmps69
 go_upto_region 1 with (fail)
 change Code.wp _ _ _ _ (w.alloc (nodeB T (.slice (some ⟨g, 0, none⟩) (l.length + 1 + 1) cp)))
 generalize hw1 : w.alloc (nodeB T (.slice (some ⟨g, 0, none⟩) (l.length + 1 + 1) cp)) = w1 at *
 replace hw1 := hid hw1
 go_wp2_with fail
 clear c0
 go_loopg [8, 9] (l.length + 1) (fun q v8 v9 wr => ∃ i : Nat, v9 = .int .i64 ((i : Int) + 2) ∧ i ≤ l.length ∧ q = l.length + 1 - i ∧ Hid (Fresh w1 wr v8 ((l.take i).map (·.name))))
 case atStart => exact ⟨0, by first | rfl | simp, by omega, by omega, hid (Fresh.nil w1)⟩
 case round =>
  obtain ⟨i, rfl, hi, rfl, hF⟩ := hrel
  rename World => wr
  have hcr := hid hF.out.2.1
  have p4 := cell_keeps hcr.out p4
  by_cases hlt : i < l.length
  ·obtain ⟨t, ht⟩ : ∃ t, l[i]? = some t := ⟨_, List.getElem?_eq_getElem hlt⟩
   obtain ⟨o, hfo⟩ : ∃ o, ops.find? (fun o => o.name == t.name) = some o := by
    have h2 := hall.out t (List.mem_of_getElem? ht)
    cases h3 : ops.find? (fun o => o.name == t.name) with
    | some o => exact ⟨o, rfl⟩
    | none =>
     obtain ⟨o, ho, h4⟩ := List.any_eq_true.1 h2; exact absurd h4 (List.find?_eq_none.1 h3 o ho)
   obtain ⟨vt, At, hkt⟩ := hkid.out i t ht; obtain ⟨ta, tl, tc, rfl⟩ := hkt.sl; clear hkt; have k0 : (0 : Int) ≤ (i : Int) + 2 := by omega
   have k1 : (i : Int) + 2 < (l.length : Int) + 1 + 1 := by omega
   have k2 : ((i : Int) + 2).toNat = i + 2 := by omega
   obtain ⟨t0, t1, t2, t3, t4⟩ := At.of_heap (hcr.out.same g At.lt (fun h => h)); have hqt := hid (al_ch wr (nodeB t (.slice ta tl tc))); have hbt := hid (World.alloc_heap_new wr (nodeB t (.slice ta tl tc))); have HC := CM.opc ((h1.out.quiet hcr.out).quiet hqt.out) hol.out hfo; obtain ⟨-, -, b2, -, -⟩ := node_cells hbt.out; replace ht := hid ht; replace hfo := hid hfo
   go_upto_region 7 with (fail)
   clear t0 t1 t2 t3 t4 k0 k1 k2 At; change Code.wp _ _ _ _ (wr.alloc (nodeB t (.slice ta tl tc))); generalize wr.alloc (nodeB t (.slice ta tl tc)) = wt at *
   go_upto_region 10 with (go_at_call 46; refine HC.mono ?_; clear HC; rintro en wo ⟨⟨go, io, capo, rfl, -, -⟩, hqo⟩)
   have b2 := hid (cell_keeps hqo b2); have hFo := hid (hF.out.quiet (hqt.out.trans hqo (fun _ h => h.elim))); clear hqo hbt hqt hcr p4
   go_wp2_with fail
   go_loopg [12] (i + 1) (fun q v12 wj => ∃ j : Nat, v12 = .int .i64 (j : Nat) ∧ j ≤ i ∧ q = i + 1 - j ∧ Hid (Ch (fun _ => False) wo wj))
   case atStart => exact ⟨0, by first | rfl | simp, by omega, by omega, hid (Ch.refl _ _)⟩
   case round =>
    obtain ⟨j, rfl, hj, rfl, hwj⟩ := hrel; rename World => wj; have hlen : ((l.take i).map (·.name)).length = i := by simp; omega
    have b2 := cell_keeps hwj.out b2.out
    by_cases hjl : j < i
    ·obtain ⟨u, hu⟩ : ∃ u, l[j]? = some u := ⟨_, List.getElem?_eq_getElem (by omega)⟩
     have hS := (hFo.out.quiet hwj.out).sv; unfold SV at hS; rw [hlen] at hS; obtain ⟨na, nc, rfl, hcase⟩ := hS
     rcases hcase with ⟨-, h0, -⟩ | ⟨gn, kn, rfl, -, -, hcs⟩
     ·rw [h0] at hlen
      simp at hlen
      omega
     ·have hun := hcs j u.name (by rw [List.getElem?_map, List.getElem?_take_of_lt hjl, hu]; rfl)
      have m0 : (0 : Int) ≤ (j : Int) := by omega
      have m1 : (j : Int) < (i : Int) := by omega
      have hwi : IntKind.i64.wrap ((j : Int) + 1) = (j : Int) + 1 := IntWalk.i64_in _ (by omega)
      have hne : (u.name == t.name) = false := by
       rw [beq_eq_false_iff_ne]; intro e; have h2 : (l.map (·.name))[j]? = (l.map (·.name))[i]? := by rw [List.getElem?_map, List.getElem?_map, hu, ht.out]; simp [e]
       have h3 := (List.getElem?_inj (by simp; omega) hnd.out).1 h2; omega
      replace hu := hid hu; replace hcs := hid hcs
      go_upto_region 13 with (fail)
      go_quiet (fail)
      go_wp2_with fail
      go_roundg (i + 1 - (j + 1))
      case measure => omega
      case rel => exact ⟨j + 1, by simp, by omega, rfl, hid (hwj.out.dn _)⟩
    ·obtain rfl : j = i := by omega
     have hF2 := (hFo.out.quiet hwj.out).quiet (al_ch wj (.cells #[str t.name] 9)); have hS := (hFo.out.quiet hwj.out).sv; unfold SV at hS; rw [hlen] at hS; obtain ⟨na, nc, rfl, -⟩ := hS; have m1 : ¬ (j : Int) < (j : Int) := by omega
     have hwi : IntKind.i64.wrap ((j : Int) + 2 + 1) = (j : Int) + 2 + 1 := IntWalk.i64_in _ (by omega)
     go_wp2_with (at_builtin; go_must (refine list_append_sv rfl (.tmp 66) (.tmp 69) rfl (l := [t.name]) rfl rfl hF2.1 (one_sv wj t.name) (by simp <;> omega) ?_); intro v' wn hrow1 hgrow hblk)
     go_roundg (l.length + 1 - (j + 1))
     case measure => omega
     case rel =>
      refine ⟨j + 1, by simp; omega, by omega, rfl, hid ?_⟩; rw [show (l.take (j + 1)).map (·.name) = (l.take j).map (·.name) ++ [t.name] by rw [List.take_add_one, ht.out]; simp]; exact hF2.more hrow1 hgrow hblk
  ·obtain rfl : i = l.length := by omega
   have k1 : ¬ (l.length : Int) + 2 < (l.length : Int) + 1 + 1 := by omega
   rw [List.take_length] at hF; have h2 := hid (h1.out.quiet hcr.out); have hc2 := hid (hcr.out.mono (O1 := K.own (Q.and w.heap.size)) (fun _ h => h.elim)); have hm2 : Hid (More w1 (K.own (Q.and w.heap.size)) (K.own (Q.and w.heap.size))) := hid fun _ h => .inl h; have HO := h2.out.ok0
   go_upto_region 18 with (go_at_call 26; refine HO.mono ?_; clear HO; rintro en wk ⟨rfl, hwk⟩; obtain rfl := hwk.symm)
   clear k1 p4; have HC := h2.out.ge.PutRow hF.out.sv (fun k hk ho => by have h3 := hF.out.2.2 k hk; have h4 := h1.out.lt (.inl ho); omega) hp_i.out
   go_upto_region 19 with (go_at_call 35; refine HC.mono ?_; clear HC; rintro en w3 ⟨rfl, hg⟩)
   obtain ⟨K3, h3, hc3, hm3⟩ := CS.roll (CM.graph h2.out hg) hc2 hm2; clear hF hcr; have HC : Calls Try.prog 36 #[.pointer (some ⟨Q.c, 0, none⟩), nodeV a va, .int .i64 i0.1] w3 fun en w' => en = .returned (.int .i64 p.1) ∧ CS w3 (Q.and w.heap.size) K3 (es) ops w' p.2 := ih (Q := Q.and w.heap.size) h3.out (by first | omega | (simp; omega)) (CM.kids (Q := Q.and w.heap.size) h1.out hka.out hc3.out) (by first | exact hp_p.out | simpa using hp_p.out); have p4 := CM.cell (Q := Q.and w.heap.size) h1.out (Or.inr rfl) hc3.out P4.out; obtain ⟨a0, a1, a2, a3, a4⟩ := CM.node (Q := Q.and w.heap.size) h1.out (Or.inl hFg.out) hc3.out Aa.out
   go_upto_region 20 with (go_at_call 36; refine HC.mono ?_; clear HC; rintro en w4 ⟨rfl, hg⟩)
   obtain ⟨K4, h4, hc4, hm4⟩ := CS.roll hg hc3 hm3; clear p4 a0 a1 a2 a3 a4; have HC : Calls Try.prog 31 #[.pointer (some ⟨Q.c, 0, none⟩), .agg #[str z.name, .int .i64 p.1, .bool false, .map none, .map none, .bool false]] w4 fun en w' => en = .returned (.tuple #[]) ∧ CS w4 (Q.and w.heap.size) K4 (es ++ [(plain z.name p.1, .map none, .map none)]) ops w' p.2 := With_any (Q := Q.and w.heap.size) h4.out (by first | omega | (simp; omega)) NamOK.plain; have p4 := CM.cell (Q := Q.and w.heap.size) h1.out (Or.inr rfl) hc4.out P4.out; have z2 := CM.cell (Q := Q.and w.heap.size) h1.out (Or.inl hFg.out) hc4.out Az.out.2.2.1
   go_upto_region 21 with (go_at_call 31; refine HC.mono ?_; clear HC; rintro en w5 ⟨rfl, hg⟩)
   obtain ⟨K5, h5, hc5, hm5⟩ := CS.roll hg hc4 hm4; clear p4 z2; have HC : Calls Try.prog 36 #[.pointer (some ⟨Q.c, 0, none⟩), nodeV c vc, .int .i64 row] w5 fun en w' => en = .returned (.int .i64 q.1) ∧ CS w5 (Q.and w.heap.size) K5 (es ++ [(plain z.name p.1, .map none, .map none)]) ops w' q.2 := ih (Q := Q.and w.heap.size) h5.out (by first | omega | (simp; omega)) (CM.kids (Q := Q.and w.heap.size) h1.out hkc.out hc5.out) (by first | exact hp_q.out | simpa using hp_q.out); have p4 := CM.cell (Q := Q.and w.heap.size) h1.out (Or.inr rfl) hc5.out P4.out; have z4 := CM.cell (Q := Q.and w.heap.size) h1.out (Or.inl hFg.out) hc5.out Az.out.2.2.2.2; obtain ⟨c0, c1, c2, c3, c4⟩ := CM.node (Q := Q.and w.heap.size) h1.out (Or.inl hFz.out) hc5.out Ac.out
   go_upto_region 22 with (go_at_call 36; refine HC.mono ?_; clear HC; rintro en w6 ⟨rfl, hg⟩)
   obtain ⟨K6, h6, hc6, hm6⟩ := CS.roll hg hc5 hm5; clear p4 z4 c0 c1 c2 c3 c4; have HC : Calls Try.prog 52 #[.pointer (some ⟨Q.c, 0, none⟩), .int .i64 1] w6 fun en w' => en = .returned (.tuple #[]) ∧ CS w6 (Q.and w.heap.size) K6 (es) ops w' q.2 := Out_any (Q := Q.and w.heap.size) (es := es) (xs := [(plain z.name p.1, .map none, .map none)]) h6.out (by simp; omega) (by simp)
   go_upto_region 23 with (go_at_call 52; refine HC.mono ?_; clear HC; rintro en w7 ⟨rfl, hg⟩)
   obtain ⟨K7, h7, hc7, hm7⟩ := CS.roll hg hc6 hm6
   go_wp2_with fail
   go_loopg [16] (l.length + 1) (fun qq v16 wr => ∃ i : Nat, v16 = .int .i64 ((i : Int) + 2) ∧ i ≤ l.length ∧ qq = l.length + 1 - i ∧ ∃ Kr er, Hid (CM wr (Q.and w.heap.size) Kr es ops er) ∧ Hid (Ch (K.own (Q.and w.heap.size)) w1 wr) ∧ Hid (More w1 (K.own (Q.and w.heap.size)) (Kr.own (Q.and w.heap.size))) ∧ Hid (clausesE f ops (exprE f ops k) (es.map (·.1)) (T.num == 1) p.1 q.1 row i0.1 (l.drop i) er = some e9))
   case atStart => exact ⟨0, by first | rfl | simp, by omega, by omega, K7, q.2, h7, hc7, hm7, hid (by rw [List.drop_zero]; exact hp_c.out)⟩
   case round =>
    obtain ⟨i, rfl, hi, rfl, Kr, er, hR, hcR, hmR, hcl⟩ := hrel; clear h2 hc2 hm2 h3 hc3 hm3 h4 hc4 hm4 h5 hc5 hm5 h6 hc6 hm6 h7 hc7 hm7; rename World => wr; have p4 := CM.cell (Q := Q.and w.heap.size) h1.out (Or.inr rfl) hcR.out P4.out
    by_cases hlt : i < l.length
    ·obtain ⟨t, ht⟩ : ∃ t, l[i]? = some t := ⟨_, List.getElem?_eq_getElem hlt⟩
     have hcl2 := hcl.out; rw [List.drop_eq_getElem_cons hlt, (List.getElem?_eq_some_iff.1 ht).2] at hcl2; obtain ⟨o, y, z2, d, l3, iu, u, r2, s2, q2, e3, hp_o, hkt, hp_1, hp_2, hp_3, hp_4, hp_5, hp_6, hp_7⟩ := clauses_cons hcl2; obtain ⟨vt, At, hkt2⟩ := hkid.out i t ht; rw [hkt] at hkt2; obtain ⟨gt, ct, hvt, hFt, hnt⟩ := hkt2.cons (by simp); simp only [List.length_cons] at hvt; subst hvt; have n0 : (0 : Int) < (l3.length : Int) + 1 + 1 + 1 := by omega
     have n1 : (1 : Int) < (l3.length : Int) + 1 + 1 + 1 := by omega
     have n2 : (2 : Int) < (l3.length : Int) + 1 + 1 + 1 := by omega
     obtain ⟨vy, Ay, -⟩ := hnt 0 y rfl; obtain ⟨vw, Aw, -⟩ := hnt 1 z2 rfl; obtain ⟨vd, Ad, hkd⟩ := hnt 2 d rfl; have k0 : (0 : Int) ≤ (i : Int) + 2 := by omega
     have k1 : (i : Int) + 2 < (l.length : Int) + 1 + 1 := by omega
     have k2 : ((i : Int) + 2).toNat = i + 2 := by omega
     obtain ⟨t0, t1, t2, t3, t4⟩ := At.of_heap (CM.kept (Q := Q.and w.heap.size) h1.out (Or.inl hFg.out) hcR.out); have hqt := al_ch wr (nodeB t (.slice (some ⟨gt, 0, none⟩) (l3.length + 1 + 1 + 1) ct)); have hcT := hid (hcR.out.trans hqt (fun _ h => h.elim)); obtain ⟨b0, b1, b2, b3, b4⟩ := node_cells (World.alloc_heap_new wr (nodeB t (.slice (some ⟨gt, 0, none⟩) (l3.length + 1 + 1 + 1) ct))); have h20 := hid (hR.out.box (T := t) (v := (.slice (some ⟨gt, 0, none⟩) (l3.length + 1 + 1 + 1) ct))); replace Ay := hid (Ay.of_heap (CM.kept (Q := Q.and w.heap.size) h1.out hFt hcT.out)); replace Aw := hid (Aw.of_heap (CM.kept (Q := Q.and w.heap.size) h1.out hFt hcT.out)); replace Ad := hid (Ad.of_heap (CM.kept (Q := Q.and w.heap.size) h1.out hFt hcT.out)); replace hkd := hid (Kids.and (n := wr.heap.size) (CM.kids (Q := Q.and w.heap.size) h1.out hkd hcT.out)); have P3' := hid (CM.cell (Q := Q.and w.heap.size) h1.out (Or.inr rfl) hcT.out P3.out); have B2 := hid b2; have B4 := hid b4; have hos := hid (hol.out.2 o (List.mem_of_find?_eq_some hp_o)); replace hFt := hid hFt; replace hqt := hid hqt; replace ht := hid ht; replace hp_o := hid hp_o; replace hp_1 := hid hp_1; replace hp_2 := hid hp_2; replace hp_3 := hid hp_3; replace hp_5 := hid hp_5; replace hp_6 := hid hp_6; replace hp_7 := hid hp_7; replace hp_4 := hid hp_4; clear hcl hcl2 hkt hkt2 hnt b0 b1 b3 b4 b2
     go_upto_region 27 with (fail)
     clear t0 t1 t2 t3 t4 k0 k1 k2 p4; change Code.wp _ _ _ _ (wr.alloc (nodeB t (.slice (some ⟨gt, 0, none⟩) (l3.length + 1 + 1 + 1) ct))); generalize wr.alloc (nodeB t (.slice (some ⟨gt, 0, none⟩) (l3.length + 1 + 1 + 1) ct)) = wt at *; have hc20 : Hid (Ch (Kr.own ((Q.and w.heap.size).and wr.heap.size)) wt wt) := hid (Ch.refl _ _); have hm20 : Hid (More wt (Kr.own ((Q.and w.heap.size).and wr.heap.size)) (Kr.own ((Q.and w.heap.size).and wr.heap.size))) := hid fun _ h => .inl h; have b2 := B2.out; have HC := CM.opc (Q := (Q.and w.heap.size).and wr.heap.size) h20.out hol.out hp_o.out
     go_upto_region 28 with (go_at_call 46; refine HC.mono ?_; clear HC; rintro en w21 ⟨⟨go, io, capo, rfl, hio, hov⟩, hqo⟩)
     obtain ⟨K21, h21, hc21, hm21⟩ := CS.roll ((CS.refl h20.out).quiet hqo) hc20 hm20; replace hio := hid hio; replace hov := hid hov; clear hqo b2; obtain ⟨os, az, hE, HC⟩ := (CM.op (Q := (Q.and w.heap.size).and wr.heap.size) h21.out hio.out hov.out hos.out).1; replace HC := HC hp_1.out; obtain ⟨f0, f1, f2, f3, f4⟩ := hE
     go_upto_region 29 with (go_at_call 87; refine HC.mono ?_; clear HC; rintro en w22 ⟨rfl, hg⟩)
     obtain ⟨K22, h22, hc22, hm22⟩ := CS.roll (CM.graph h21.out hg) hc21 hm21; clear f0 f1 f2 f3 f4; obtain ⟨os, az, hE, HC⟩ := (CM.op (Q := (Q.and w.heap.size).and wr.heap.size) h22.out hio.out hov.out hos.out).2; replace HC := HC hp_2.out; obtain ⟨f0, f1, f2, f3, f4⟩ := hE
     go_upto_region 30 with (go_at_call 87; refine HC.mono ?_; clear HC; rintro en w23 ⟨rfl, hg⟩)
     obtain ⟨K23, h23, hc23, hm23⟩ := CS.roll (CM.graph h22.out hg) hc22 hm22; clear f0 f1 f2 f3 f4; have HC := h23.out.ge.Put hp_3.out
     go_upto_region 31 with (go_at_call 63; refine HC.mono ?_; clear HC; rintro en w24 ⟨rfl, hg⟩)
     obtain ⟨K24, h24, hc24, hm24⟩ := CS.roll (CM.graph h23.out hg) hc23 hm23; have p3 := CM.cell (Q := (Q.and w.heap.size).and wr.heap.size) h20.out (Or.inl (Or.inr rfl)) hc24.out P3'.out
     by_cases hsh : T.num = 1
     ·have hs := hp_4.out
      simp only [hsh, beq_self_eq_true, if_true] at hs; rw [hsh] at p3; replace hs := hid hs; clear hsh; have HC := h24.out.ge.Put hs.out
      go_upto_region 33 with (go_at_call 63; refine HC.mono ?_; clear HC; rintro en w25 ⟨rfl, hg⟩)
      obtain ⟨K25, h25, hc25, hm25⟩ := CS.roll (CM.graph h24.out hg) hc24 hm24; clear p3; have HC : Calls Try.prog 31 #[.pointer (some ⟨Q.c, 0, none⟩), .agg #[str y.name, .int .i64 iu.1, .bool false, .map none, .map none, .bool true]] w25 fun en w' => en = .returned (.tuple #[]) ∧ CS w25 ((Q.and w.heap.size).and wr.heap.size) K25 (es ++ [(opnd y.name iu.1, .map none, .map none)]) ops w' s2.2 := With_any (Q := (Q.and w.heap.size).and wr.heap.size) h25.out (by first | omega | (simp; omega)) NamOK.opnd; have b4 := CM.cell (Q := (Q.and w.heap.size).and wr.heap.size) h20.out (Or.inr rfl) hc25.out B4.out; have y2 := CM.cell (Q := (Q.and w.heap.size).and wr.heap.size) h20.out (Or.inl hFt.out) hc25.out Ay.out.2.2.1
      go_upto_region 34 with (go_at_call 31; refine HC.mono ?_; clear HC; rintro en w26 ⟨rfl, hg⟩)
      obtain ⟨K26, h26, hc26, hm26⟩ := CS.roll hg hc25 hm25; clear b4 y2; have HC : Calls Try.prog 31 #[.pointer (some ⟨Q.c, 0, none⟩), .agg #[str z2.name, .int .i64 s2.1, .bool false, .map none, .map none, .bool true]] w26 fun en w' => en = .returned (.tuple #[]) ∧ CS w26 ((Q.and w.heap.size).and wr.heap.size) K26 ((es ++ [(opnd y.name iu.1, .map none, .map none)]) ++ [(opnd z2.name s2.1, .map none, .map none)]) ops w' s2.2 := With_any (Q := (Q.and w.heap.size).and wr.heap.size) h26.out (by first | omega | (simp; omega)) NamOK.opnd; have b4 := CM.cell (Q := (Q.and w.heap.size).and wr.heap.size) h20.out (Or.inr rfl) hc26.out B4.out; have x2 := CM.cell (Q := (Q.and w.heap.size).and wr.heap.size) h20.out (Or.inl hFt.out) hc26.out Aw.out.2.2.1
      go_upto_region 35 with (go_at_call 31; refine HC.mono ?_; clear HC; rintro en w27 ⟨rfl, hg⟩)
      obtain ⟨K27, h27, hc27, hm27⟩ := CS.roll hg hc26 hm26; clear b4 x2; have HC : Calls Try.prog 36 #[.pointer (some ⟨Q.c, 0, none⟩), nodeV d vd, .int .i64 row] w27 fun en w' => en = .returned (.int .i64 q2.1) ∧ CS w27 ((Q.and w.heap.size).and wr.heap.size) K27 ((es ++ [(opnd y.name iu.1, .map none, .map none)]) ++ [(opnd z2.name s2.1, .map none, .map none)]) ops w' q2.2 := ih (Q := (Q.and w.heap.size).and wr.heap.size) h27.out (by first | omega | (simp; omega)) (CM.kids (Q := (Q.and w.heap.size).and wr.heap.size) h20.out hkd.out hc27.out) (by first | exact hp_5.out | simpa using hp_5.out); have b4 := CM.cell (Q := (Q.and w.heap.size).and wr.heap.size) h20.out (Or.inr rfl) hc27.out B4.out; obtain ⟨d0, d1, d2, d3, d4⟩ := CM.node (Q := (Q.and w.heap.size).and wr.heap.size) h20.out (Or.inl hFt.out) hc27.out Ad.out
      go_upto_region 36 with (go_at_call 36; refine HC.mono ?_; clear HC; rintro en w28 ⟨rfl, hg⟩)
      obtain ⟨K28, h28, hc28, hm28⟩ := CS.roll hg hc27 hm27; clear b4 d0 d1 d2 d3 d4; have HC : Calls Try.prog 52 #[.pointer (some ⟨Q.c, 0, none⟩), .int .i64 2] w28 fun en w' => en = .returned (.tuple #[]) ∧ CS w28 ((Q.and w.heap.size).and wr.heap.size) K28 (es) ops w' q2.2 := Out_any (Q := (Q.and w.heap.size).and wr.heap.size) (es := es) (xs := [(opnd y.name iu.1, .map none, .map none), (opnd z2.name s2.1, .map none, .map none)]) (by have h0 := h28.out; rw [List.append_assoc] at h0; exact h0) (by simp; omega) (by simp)
      go_upto_region 37 with (go_at_call 52; refine HC.mono ?_; clear HC; rintro en w29 ⟨rfl, hg⟩)
      obtain ⟨K29, h29, hc29, hm29⟩ := CS.roll hg hc28 hm28; have HC : Calls Try.prog 53 #[.pointer (some ⟨Q.c, 0, none⟩), .int .i64 q2.1, .int .i64 q.1, .int .i64 d.pos] w29 fun en w' => en = .returned (.tuple #[]) ∧ CS w29 ((Q.and w.heap.size).and wr.heap.size) K29 (es) ops w' e3 := Same_ck (Q := (Q.and w.heap.size).and wr.heap.size) d.pos h29.out hp_6.out; have b4 := CM.cell (Q := (Q.and w.heap.size).and wr.heap.size) h20.out (Or.inr rfl) hc29.out B4.out; have d1 := CM.cell (Q := (Q.and w.heap.size).and wr.heap.size) h20.out (Or.inl hFt.out) hc29.out Ad.out.2.1
      go_wp2_with (go_at_call 53; refine HC.mono ?_; clear HC; rintro en w30 ⟨rfl, hg⟩)
      obtain ⟨K30, h30, hc30, hm30⟩ := CS.roll hg hc29 hm29; clear b4 d1
      go_roundg (l.length + 1 - (i + 1))
      case measure => omega
      case rel => exact ⟨i + 1, by simp; omega, by omega, rfl, K30, e3, hid (CM.less h30.out), hid (hcR.out.two ((hqt.out.mono (O1 := Kr.own ((Q.and w.heap.size).and wr.heap.size)) (fun _ h => h.elim)).two hc30.out (fun _ h => .inl h)) hmR.out), hid (hmR.out.two (fun k hk => (hm30.out k hk).imp id (fun h => Nat.le_trans hqt.out.size h)) hcR.out.size), hp_7⟩
     ·replace hsh : (T.num == 1) = false := by simpa using hsh
      have hs := hp_4.out; rw [hsh] at hs; simp only [Bool.false_eq_true, if_false] at hs; obtain rfl := Option.some.inj hs; clear hs
      go_upto_region 33 with (fail)
      clear p3 hsh; have HC : Calls Try.prog 31 #[.pointer (some ⟨Q.c, 0, none⟩), .agg #[str y.name, .int .i64 iu.1, .bool false, .map none, .map none, .bool true]] w24 fun en w' => en = .returned (.tuple #[]) ∧ CS w24 ((Q.and w.heap.size).and wr.heap.size) K24 (es ++ [(opnd y.name iu.1, .map none, .map none)]) ops w' r2.2 := With_any (Q := (Q.and w.heap.size).and wr.heap.size) h24.out (by first | omega | (simp; omega)) NamOK.opnd; have b4 := CM.cell (Q := (Q.and w.heap.size).and wr.heap.size) h20.out (Or.inr rfl) hc24.out B4.out; have y2 := CM.cell (Q := (Q.and w.heap.size).and wr.heap.size) h20.out (Or.inl hFt.out) hc24.out Ay.out.2.2.1
      go_upto_region 34 with (go_at_call 31; refine HC.mono ?_; clear HC; rintro en w25 ⟨rfl, hg⟩)
      obtain ⟨K25, h25, hc25, hm25⟩ := CS.roll hg hc24 hm24; clear b4 y2; have HC : Calls Try.prog 31 #[.pointer (some ⟨Q.c, 0, none⟩), .agg #[str z2.name, .int .i64 r2.1, .bool false, .map none, .map none, .bool true]] w25 fun en w' => en = .returned (.tuple #[]) ∧ CS w25 ((Q.and w.heap.size).and wr.heap.size) K25 ((es ++ [(opnd y.name iu.1, .map none, .map none)]) ++ [(opnd z2.name r2.1, .map none, .map none)]) ops w' r2.2 := With_any (Q := (Q.and w.heap.size).and wr.heap.size) h25.out (by first | omega | (simp; omega)) NamOK.opnd; have b4 := CM.cell (Q := (Q.and w.heap.size).and wr.heap.size) h20.out (Or.inr rfl) hc25.out B4.out; have x2 := CM.cell (Q := (Q.and w.heap.size).and wr.heap.size) h20.out (Or.inl hFt.out) hc25.out Aw.out.2.2.1
      go_upto_region 35 with (go_at_call 31; refine HC.mono ?_; clear HC; rintro en w26 ⟨rfl, hg⟩)
      obtain ⟨K26, h26, hc26, hm26⟩ := CS.roll hg hc25 hm25; clear b4 x2; have HC : Calls Try.prog 36 #[.pointer (some ⟨Q.c, 0, none⟩), nodeV d vd, .int .i64 row] w26 fun en w' => en = .returned (.int .i64 q2.1) ∧ CS w26 ((Q.and w.heap.size).and wr.heap.size) K26 ((es ++ [(opnd y.name iu.1, .map none, .map none)]) ++ [(opnd z2.name r2.1, .map none, .map none)]) ops w' q2.2 := ih (Q := (Q.and w.heap.size).and wr.heap.size) h26.out (by first | omega | (simp; omega)) (CM.kids (Q := (Q.and w.heap.size).and wr.heap.size) h20.out hkd.out hc26.out) (by first | exact hp_5.out | simpa using hp_5.out); have b4 := CM.cell (Q := (Q.and w.heap.size).and wr.heap.size) h20.out (Or.inr rfl) hc26.out B4.out; obtain ⟨d0, d1, d2, d3, d4⟩ := CM.node (Q := (Q.and w.heap.size).and wr.heap.size) h20.out (Or.inl hFt.out) hc26.out Ad.out
      go_upto_region 36 with (go_at_call 36; refine HC.mono ?_; clear HC; rintro en w27 ⟨rfl, hg⟩)
      obtain ⟨K27, h27, hc27, hm27⟩ := CS.roll hg hc26 hm26; clear b4 d0 d1 d2 d3 d4; have HC : Calls Try.prog 52 #[.pointer (some ⟨Q.c, 0, none⟩), .int .i64 2] w27 fun en w' => en = .returned (.tuple #[]) ∧ CS w27 ((Q.and w.heap.size).and wr.heap.size) K27 (es) ops w' q2.2 := Out_any (Q := (Q.and w.heap.size).and wr.heap.size) (es := es) (xs := [(opnd y.name iu.1, .map none, .map none), (opnd z2.name r2.1, .map none, .map none)]) (by have h0 := h27.out; rw [List.append_assoc] at h0; exact h0) (by simp; omega) (by simp)
      go_upto_region 37 with (go_at_call 52; refine HC.mono ?_; clear HC; rintro en w28 ⟨rfl, hg⟩)
      obtain ⟨K28, h28, hc28, hm28⟩ := CS.roll hg hc27 hm27; have HC : Calls Try.prog 53 #[.pointer (some ⟨Q.c, 0, none⟩), .int .i64 q2.1, .int .i64 q.1, .int .i64 d.pos] w28 fun en w' => en = .returned (.tuple #[]) ∧ CS w28 ((Q.and w.heap.size).and wr.heap.size) K28 (es) ops w' e3 := Same_ck (Q := (Q.and w.heap.size).and wr.heap.size) d.pos h28.out hp_6.out; have b4 := CM.cell (Q := (Q.and w.heap.size).and wr.heap.size) h20.out (Or.inr rfl) hc28.out B4.out; have d1 := CM.cell (Q := (Q.and w.heap.size).and wr.heap.size) h20.out (Or.inl hFt.out) hc28.out Ad.out.2.1
      go_wp2_with (go_at_call 53; refine HC.mono ?_; clear HC; rintro en w29 ⟨rfl, hg⟩)
      obtain ⟨K29, h29, hc29, hm29⟩ := CS.roll hg hc28 hm28; clear b4 d1
      go_roundg (l.length + 1 - (i + 1))
      case measure => omega
      case rel => exact ⟨i + 1, by simp; omega, by omega, rfl, K29, e3, hid (CM.less h29.out), hid (hcR.out.two ((hqt.out.mono (O1 := Kr.own ((Q.and w.heap.size).and wr.heap.size)) (fun _ h => h.elim)).two hc29.out (fun _ h => .inl h)) hmR.out), hid (hmR.out.two (fun k hk => (hm29.out k hk).imp id (fun h => Nat.le_trans hqt.out.size h)) hcR.out.size), hp_7⟩
    ·obtain rfl : i = l.length := by omega
     have k1 : ¬ (l.length : Int) + 2 < (l.length : Int) + 1 + 1 := by omega
     have hz := hcl.out; rw [List.drop_length] at hz; obtain rfl := Option.some.inj hz; clear hz hcl
     go_wp2_with fail
     go_ret
     exact ⟨rfl, CS.pre hq.out (CS.back ⟨Kr, hR.out, hcR.out, hmR.out⟩)⟩
end
end Go.Proofs.Ytejciampbnfbhaa

namespace Go.Proofs.Ytejciampbnfbhaa
open Go.RowKit Ie
theorem Inf_any {f : Nat} {ops : List Opr} (hol : OpsOK ops) : ∀ k, InfOK f ops k
 | 0 => by
  intro h hl hv hp
  cases hp
 | k + 1 => by
  have ih : InfOK f ops k := Inf_any (f := f) hol k
  intro h hl hv hp
  rename_i w Q K es e e2 T v row m
  have hz : es.length < 1000000 := by omega
  unfold exprE at hp
  split at hp
  ·exact Expr_int h ‹_› hp
  ·exact Expr_bool h ‹_› hp
  ·exact Expr_unit h ‹_› hp
  ·exact Expr_nil h ‹_› hp
  ·exact Expr_var h hz ‹_› hp
  ·exact Expr_fn ih h hl hv ‹_› ‹_› hp
  ·rename_i hk hks
   exact Expr_app h hv hk fun h1 hv1 => App_any ih h1 hl hv1 hk hks hp
  ·rename_i hk
   exact Expr_let h hv hk fun h1 hv1 => Let_any ih h1 hl hv1 hp
  ·exact Expr_seq ih h hl hv ‹_› ‹_› hp
  ·exact Expr_if ih h hl hv ‹_› ‹_› hp
  ·exact Expr_pair ih h hl hv ‹_› ‹_› hp
  ·exact Expr_fst ih h hl hv ‹_› ‹_› hp
  ·exact Expr_snd ih h hl hv ‹_› ‹_› hp
  ·exact Expr_cons ih h hl hv ‹_› ‹_› hp
  ·rename_i hk hks
   exact Expr_case h hv hk fun h1 hv1 => Cases_any ih h1 hl hv1 hk hks hp
  ·exact Expr_op ih h hl hv ‹_› ‹_› hp
  ·rename_i hk hks
   exact Expr_do h hv hk fun h1 hv1 => Does_any ih h1 hl hv1 hol hks hp
  ·rename_i hk
   refine Expr_handle h hv hk fun h1 hv1 => ?_; unfold handleE at hp
   split at hp
   ·rename_i a z l hks
    split at hp
    ·rename_i c l2 hkz
     by_cases hc : l.all (fun k => ops.any (fun o => o.name == k.name)) ∧ (l.map (·.name)).Nodup
     ·rw [if_pos hc] at hp
      exact Handle_any ih hol h1 hl hv1 hks hkz (List.all_eq_true.1 hc.1) hc.2 hp
     ·rw [if_neg hc] at hp
      cases hp
    ·cases hp
   ·cases hp
  ·cases hp
end Go.Proofs.Ytejciampbnfbhaa
