import Derived.Test.YtejciampbnfbhaaHw
import Derived.Test.YtejciampbnfbhaaMJs
import Derived.Test.YtejciampbnfbhaaMDv
import Derived.Deep.CutRange
set_option linter.unusedVariables false
set_option linter.unusedSimpArgs false
set_option maxRecDepth 100000
set_option maxHeartbeats 16000000
namespace Go.Proofs.Ytejciampbnfbhaa
open Go.RowKit Ie
abbrev opZ : Obj := .cells #[.string ⟨#[]⟩, .int .i64 0, .int .i64 0, .int .i64 0, .slice none 0 0, .slice none 0 0, .int .i64 0, .int .i64 0, .int .i64 0, .slice none 0 0, .slice none 0 0, .int .i64 0] 98
abbrev set12 (w : World) (B : Nat) (x : OD) : World := ((((((((((((w).setCell ⟨B, 0, none⟩ (str x.1.name)).setCell ⟨B, 1, none⟩ (.int .i64 x.1.ti.kind)).setCell ⟨B, 2, none⟩ (.int .i64 x.1.ti.num)).setCell ⟨B, 3, none⟩ (.int .i64 x.1.ti.row)).setCell ⟨B, 4, none⟩ (x.2.1.1)).setCell ⟨B, 5, none⟩ (x.2.1.2.1)).setCell ⟨B, 6, none⟩ (.int .i64 x.1.to.kind)).setCell ⟨B, 7, none⟩ (.int .i64 x.1.to.num)).setCell ⟨B, 8, none⟩ (.int .i64 x.1.to.row)).setCell ⟨B, 9, none⟩ (x.2.1.2.2.1)).setCell ⟨B, 10, none⟩ (x.2.1.2.2.2)).setCell ⟨B, 11, none⟩ (.int .i64 x.2.2)
theorem set12_blk {w : World} {B : Nat} {x : OD} (h : w.heap[B]? = some opZ) : (set12 w B x).heap[B]? = some (opB x) := by
 have h2 := (blk_set (i := 11) (v := .int .i64 x.2.2) (blk_set (i := 10) (v := x.2.1.2.2.2) (blk_set (i := 9) (v := x.2.1.2.2.1) (blk_set (i := 8) (v := .int .i64 x.1.to.row) (blk_set (i := 7) (v := .int .i64 x.1.to.num) (blk_set (i := 6) (v := .int .i64 x.1.to.kind) (blk_set (i := 5) (v := x.2.1.2.1) (blk_set (i := 4) (v := x.2.1.1) (blk_set (i := 3) (v := .int .i64 x.1.ti.row) (blk_set (i := 2) (v := .int .i64 x.1.ti.num) (blk_set (i := 1) (v := .int .i64 x.1.ti.kind) (blk_set (i := 0) (v := str x.1.name) h))))))))))))
 exact h2.trans (by simp)
theorem set12_ch {O : Nat → Prop} {w w' : World} {B : Nat} {x : OD} (h : Ch O w w') (hB : O B ∨ w.heap.size ≤ B) : Ch O w (set12 w' B x) := by
 refine h.trans (O1 := fun j => j = B) ?_ (fun j e => e ▸ hB)
 exact ((((((((((((Ch.setCell (O := fun j => j = B) w' ⟨B, 0, none⟩ (str x.1.name) rfl).set (a := ⟨B, 1, none⟩) rfl (.int .i64 x.1.ti.kind)).set (a := ⟨B, 2, none⟩) rfl (.int .i64 x.1.ti.num)).set (a := ⟨B, 3, none⟩) rfl (.int .i64 x.1.ti.row)).set (a := ⟨B, 4, none⟩) rfl (x.2.1.1)).set (a := ⟨B, 5, none⟩) rfl (x.2.1.2.1)).set (a := ⟨B, 6, none⟩) rfl (.int .i64 x.1.to.kind)).set (a := ⟨B, 7, none⟩) rfl (.int .i64 x.1.to.num)).set (a := ⟨B, 8, none⟩) rfl (.int .i64 x.1.to.row)).set (a := ⟨B, 9, none⟩) rfl (x.2.1.2.2.1)).set (a := ⟨B, 10, none⟩) rfl (x.2.1.2.2.2)).set (a := ⟨B, 11, none⟩) rfl (.int .i64 x.2.2))
theorem op_cells {w : World} {B : Nat} {x : OD} (h : w.heap[B]? = some (opB x)) : (w.cell? ⟨B, 0, none⟩ = some (str x.1.name) ∧ w.cell? ⟨B, 1, none⟩ = some (.int .i64 x.1.ti.kind) ∧ w.cell? ⟨B, 2, none⟩ = some (.int .i64 x.1.ti.num) ∧ w.cell? ⟨B, 3, none⟩ = some (.int .i64 x.1.ti.row) ∧ w.cell? ⟨B, 4, none⟩ = some (x.2.1.1) ∧ w.cell? ⟨B, 5, none⟩ = some (x.2.1.2.1) ∧ w.cell? ⟨B, 6, none⟩ = some (.int .i64 x.1.to.kind) ∧ w.cell? ⟨B, 7, none⟩ = some (.int .i64 x.1.to.num) ∧ w.cell? ⟨B, 8, none⟩ = some (.int .i64 x.1.to.row) ∧ w.cell? ⟨B, 9, none⟩ = some (x.2.1.2.2.1) ∧ w.cell? ⟨B, 10, none⟩ = some (x.2.1.2.2.2) ∧ w.cell? ⟨B, 11, none⟩ = some (.int .i64 x.2.2)) ∧ ∀ i, w.frozen? ⟨B, i, none⟩ = false := by
 refine ⟨⟨?_, ?_, ?_, ?_, ?_, ?_, ?_, ?_, ?_, ?_, ?_, ?_⟩, fun i => ?_⟩
 all_goals first | (unfold World.cell?; rw [h]; rfl) | (unfold World.frozen?; rw [h]; simp)
theorem opz_cells {w : World} {B : Nat} (h : w.heap[B]? = some opZ) : (w.cell? ⟨B, 0, none⟩ = some (.string ⟨#[]⟩) ∧ w.cell? ⟨B, 1, none⟩ = some (.int .i64 0) ∧ w.cell? ⟨B, 2, none⟩ = some (.int .i64 0) ∧ w.cell? ⟨B, 3, none⟩ = some (.int .i64 0) ∧ w.cell? ⟨B, 4, none⟩ = some (.slice none 0 0) ∧ w.cell? ⟨B, 5, none⟩ = some (.slice none 0 0) ∧ w.cell? ⟨B, 6, none⟩ = some (.int .i64 0) ∧ w.cell? ⟨B, 7, none⟩ = some (.int .i64 0) ∧ w.cell? ⟨B, 8, none⟩ = some (.int .i64 0) ∧ w.cell? ⟨B, 9, none⟩ = some (.slice none 0 0) ∧ w.cell? ⟨B, 10, none⟩ = some (.slice none 0 0) ∧ w.cell? ⟨B, 11, none⟩ = some (.int .i64 0)) ∧ ∀ i, w.frozen? ⟨B, i, none⟩ = false := by
 refine ⟨⟨?_, ?_, ?_, ?_, ?_, ?_, ?_, ?_, ?_, ?_, ?_, ?_⟩, fun i => ?_⟩
 all_goals first | (unfold World.cell?; rw [h]; rfl) | (unfold World.frozen?; rw [h]; simp)
theorem ck_cells {w : World} {c b : Nat} {ov : Value} (h : w.heap[c]? = some (ckB b ov)) : w.cell? ⟨c, 0, none⟩ = some (.pointer (some ⟨b, 0, none⟩)) ∧ w.cell? ⟨c, 1, none⟩ = some (.slice none 0 0) ∧ w.cell? ⟨c, 2, none⟩ = some ov ∧ w.cell? ⟨c, 3, none⟩ = some (.int .i64 0) ∧ w.cell? ⟨c, 4, none⟩ = some (.int .i64 0) := by
 refine ⟨?_, ?_, ?_, ?_, ?_⟩ <;> (unfold World.cell?; rw [h]; rfl)
theorem RdB.ch {m B : Nat} {w w' : World} {t : Ty.P} {os az : Value} (h : RdB m B w t os az) (hc : Ch (fun _ => False) w w') : RdB m B w' t os az := ⟨h.1, h.2.1, fun w2 h2 => h.2.2 w2 fun k h3 h4 h5 => (h2 k h3 (Nat.lt_of_lt_of_le h4 hc.size) h5).trans (hc.same k h4 (fun h => h))⟩
theorem opC_one {x : OD} (h : isSl x.2.1.1 ∧ isSl x.2.1.2.1 ∧ isSl x.2.1.2.2.1 ∧ isSl x.2.1.2.2.2) : ∀ u ∈ opC x, u.oneCell' = true := by
 obtain ⟨⟨a1, n1, c1, h1⟩, ⟨a2, n2, c2, h2⟩, ⟨a3, n3, c3, h3⟩, ⟨a4, n4, c4, h4⟩⟩ := h
 intro u hu
 simp only [opC, List.mem_cons, List.not_mem_nil, or_false] at hu
 rcases hu with rfl | rfl | rfl | rfl | rfl | rfl | rfl | rfl | rfl | rfl | rfl | rfl <;> first | rfl | (rw [h1]; rfl) | (rw [h2]; rfl) | (rw [h3]; rfl) | (rw [h4]; rfl)
structure OpMid (w1 w4 : World) (B : Nat) (x : OD) : Prop where
 t : w4.heap[B]? = some (opB x)
 lB : w1.heap.size ≤ B
 c : Ch (fun _ => False) w1 w4
 r1 : RdB w1.heap.size B w4 x.1.ti x.2.1.1 x.2.1.2.1
 r2 : RdB w1.heap.size B w4 x.1.to x.2.1.2.2.1 x.2.1.2.2.2
theorem Ops_any {k c b : Nat} {w : World} {F : Nat → Prop} {T : Sy.Tr} {v : Value} {ops : List Opr} (hb : w.heap[c]? = some (ckB b (.slice none 0 0))) (hF : ∀ k, F k → k < w.heap.size ∧ k ≠ c) (hv : Kids w F v T.kids) {N : Nat} (hN : T.num = (N : Int)) (hN2 : N < T.kids.length) (hlen : T.kids.length < 1000000) (hp : opsOf k ((T.kids.take N).map (·.name)) (T.kids.take N) [] = some ops) :
  Calls Try.prog 25 #[.pointer (some ⟨c, 0, none⟩), nodeV T v] w fun en w' => en = .returned (.tuple #[]) ∧ ∃ ov l, l.map (·.1) = ops ∧ w'.heap[c]? = some (ckB b ov) ∧ OM w.heap.size w' ov l ∧ Ch (fun j => j = c) w w' := by
 obtain ⟨g, cp, hvv, hFg, hn⟩ := hv.cons (fun e => by rw [e] at hN2; cases hN2)
 subst hvv
 have hq := hid (al_ch w (nodeB T (.slice (some ⟨g, 0, none⟩) T.kids.length cp)))
 have hbx := World.alloc_heap_new w (nodeB T (.slice (some ⟨g, 0, none⟩) T.kids.length cp))
 obtain ⟨p0, p1, p2, p3, p4⟩ := node_cells hbx
 rw [hN] at p3
 have hkid : Hid (∀ i t, T.kids[i]? = some t → ∃ kt, NodeAt w g (i * 5) t kt ∧ Kids w F kt t.kids) := hid hn
 have hcl := (Array.getElem?_eq_some_iff.1 hb).1
 replace hb := hid ((hq.out.same _ hcl (fun h => h)).trans hb)
 replace hv := hid hv
 clear hn hbx p0 p1 p2
 replace hN := hid hN
 replace hF := hid hF
 replace hp := hid hp
 go_enter Try.func25, Try.ntmps25
 go_upto_region 1 with (fail)
 change Code.wp _ _ _ _ (w.alloc (nodeB T (.slice (some ⟨g, 0, none⟩) T.kids.length cp)))
 have hz1 : Hid ((w.alloc (nodeB T (.slice (some ⟨g, 0, none⟩) T.kids.length cp))).heap.size = w.heap.size + 1) := hid (by simp)
 generalize w.alloc (nodeB T (.slice (some ⟨g, 0, none⟩) T.kids.length cp)) = w0 at *
 go_wp2_with fail
 go_loopg [4, 5] (N + 1) (fun q v4 v5 wr => ∃ i : Nat, v5 = .int .i64 (i : Nat) ∧ i ≤ N ∧ q = N + 1 - i ∧ Hid (Fresh w0 wr v4 ((T.kids.take i).map (·.name))))
 case atStart => exact ⟨0, by first | rfl | simp, by omega, by omega, hid (Fresh.nil w0)⟩
 case round =>
  obtain ⟨i, rfl, hi, rfl, hFr⟩ := hrel
  rename World => wr
  have hcr := hid hFr.out.2.1
  have p3 := cell_keeps hcr.out p3
  have p4 := cell_keeps hcr.out p4
  have hlt5 : ((T.kids.take i).map (·.name)).length = i := by simp; omega
  have hS := hFr.out.sv
  unfold SV at hS
  rw [hlt5] at hS
  obtain ⟨na, nc, rfl, -⟩ := hS
  by_cases hlt : i < N
  ·obtain ⟨t, ht⟩ : ∃ t, T.kids[i]? = some t := ⟨_, List.getElem?_eq_getElem (by omega)⟩
   obtain ⟨vt, At, -⟩ := hkid.out i t ht; have k0 : (0 : Int) ≤ (i : Int) := by omega
   have k1 : (i : Int) < (T.kids.length : Int) := by omega
   have k3 : (i : Int) < (N : Int) := by omega
   have hwi : IntKind.i64.wrap ((i : Int) + 1) = (i : Int) + 1 := IntWalk.i64_in _ (by omega); obtain ⟨-, -, t2, -, -⟩ := At.of_heap ((hcr.out.same g (Nat.lt_of_lt_of_le At.lt hq.out.size) (fun h => h)).trans (hq.out.same g At.lt (fun h => h))); have hF2 := hFr.out.quiet (al_ch wr (.cells #[str t.name] 9)); replace ht := hid ht; clear At
   go_wp2_with (at_builtin; go_must (refine list_append_sv rfl (.tmp 16) (.tmp 23) rfl (l := [t.name]) rfl rfl hF2.1 (one_sv wr t.name) (by simp <;> omega) ?_); intro v' wn hrow1 hgrow hblk)
   go_roundg (N + 1 - (i + 1))
   case measure => omega
   case rel =>
    refine ⟨i + 1, by simp, by omega, rfl, hid ?_⟩; rw [show (T.kids.take (i + 1)).map (·.name) = (T.kids.take i).map (·.name) ++ [t.name] by rw [List.take_add_one, ht.out]; simp]; exact hF2.more hrow1 hgrow hblk
  ·obtain rfl : i = N := by omega
   have k3 : ¬ (i : Int) < (i : Int) := by omega
   go_upto_region 6 with (fail)
   have hwz : w.heap.size + 1 ≤ wr.heap.size := by have := hcr.out.size; have := hz1.out; omega
   have hNms : Hid (NmsIn wr (.slice na i nc) ((T.kids.take i).map (·.name))) := hid (by
    obtain ⟨a, cap, h1, h2, -⟩ := row_slice hFr.out.1; rw [hlt5] at h1 h2; cases h1; refine ⟨_, _, by rw [hlt5], fun h0 => ?_⟩
    rcases h2 with h2 | ⟨gn, rfl⟩
    ·omega
    ·refine ⟨gn, rfl, fun j n hj => ?_⟩
     have h3 := hFr.out.1; rw [hlt5] at h3
     exact row_cell h3 j (str n) (by unfold strs; rw [List.getElem?_map, hj]; rfl))
   have hbc : Hid (wr.heap[c]? = some (ckB b (.slice none 0 0))) := hid ((hcr.out.same _ (by have := hz1.out; omega) (fun h => h)).trans hb.out)
   have hNo : Hid (∀ gn ni nn, (Value.slice na i nc) = .slice (some ⟨gn, ni, nn⟩) i nc → gn ≠ c) := hid (fun gn ni nn h e => by
    cases h; have h3 := hFr.out.2.2 gn rfl; have := hz1.out
    omega)
   have hkid2 : Hid (∀ i t, T.kids[i]? = some t → ∃ kt, NodeAt wr g (i * 5) t kt ∧ Kids wr F kt t.kids) := hid fun i t ht => by
    obtain ⟨kt, h1, h2⟩ := hkid.out i t ht; exact ⟨kt, h1.of_heap ((hcr.out.same g (Nat.lt_of_lt_of_le h1.lt hq.out.size) (fun h => h)).trans (hq.out.same g h1.lt (fun h => h))), (h2.quiet hq.out).quiet hcr.out⟩
   have hgc : Hid (g < wr.heap.size ∧ g ≠ c) := hid ⟨by have := (hF.out g hFg).1; omega, (hF.out g hFg).2⟩; have hFw : Hid (∀ k, F k → k < wr.heap.size ∧ k ≠ c) := hid fun k hk => ⟨by have := (hF.out k hk).1; omega, (hF.out k hk).2⟩; have hcc2 : Hid (Ch (fun _ => False) w wr) := hid (hq.out.trans hcr.out (fun _ h => h.elim)); have hwc : Hid (w.heap.size ≠ c) := hid (by omega); clear hFr hcr hkid hb hq hlt5 k3 hlt hi; have hcw : c < wr.heap.size := by omega
   have hN3 : Hid (i < T.kids.length) := hid hN2; have hp' : Hid (opsOf k ((T.kids.take i).map (·.name)) ((T.kids.take i).drop 0) (([] : List OD).map (·.1)) = some ops) := hid (by simpa using hp.out)
   go_wp2_with fail
   go_loopg [6] (i + 1) (fun q v6 wq => ∃ j : Nat, v6 = .int .i64 (j : Nat) ∧ j ≤ i ∧ q = i + 1 - j ∧ ∃ ov l, l.length ≤ j ∧ Hid (wq.heap[c]? = some (ckB b ov)) ∧ Hid (OM wr.heap.size wq ov l) ∧ Hid (Ch (fun z => z = c) wr wq) ∧ Hid (opsOf k ((T.kids.take i).map (·.name)) ((T.kids.take i).drop j) (l.map (·.1)) = some ops))
   case atStart => exact ⟨0, by first | rfl | simp, by omega, by omega, _, [], by simp, hbc, hid (OM.start _ _), hid (Ch.refl _ _), hp'⟩
   case round =>
    obtain ⟨j, rfl, hj, rfl, ov, ol, hol, hcb, hO, hcq, hpj⟩ := hrel; rename World => wq; have hgl := hgc.out; have p3 := (hcq.out.cell (p := ⟨w.heap.size, 3, none⟩) (block_lt_of_cell p3) (fun e => hwc.out e)).trans p3; have p4 := (hcq.out.cell (p := ⟨w.heap.size, 4, none⟩) (block_lt_of_cell p4) (fun e => hwc.out e)).trans p4
    by_cases hlt : j < i
    ·obtain ⟨t, ht⟩ : ∃ t, T.kids[j]? = some t := ⟨_, List.getElem?_eq_getElem (by have := hN3.out; omega)⟩
     have hpt := hpj.out; have hkj : (T.kids.take i)[j]? = some t := by rw [List.getElem?_take_of_lt hlt, ht]
     rw [List.drop_eq_getElem_cons (List.getElem?_eq_some_iff.1 hkj).1, (List.getElem?_eq_some_iff.1 hkj).2] at hpt; obtain ⟨a, b2, l3, x, y, hkt, hany, hra, hrb, hx, hy, hxs, hys, hprest⟩ := ops_cons hpt; obtain ⟨vt, At, hkt2⟩ := hkid2.out j t ht; replace hkt2 := hkt2.carry (w' := wq) (F' := F) (fun q hq hl => hcq.out.same q hl (hFw.out q hq).2) (fun _ h _ => h); replace At := At.of_heap (hcq.out.same g At.lt hgl.2); rw [hkt] at hkt2; obtain ⟨gt, ct, hvt, hFt, hnt⟩ := hkt2.cons (by simp); simp only [List.length_cons] at hvt; subst hvt; obtain ⟨va, Aa, hka⟩ := hnt 0 a rfl; obtain ⟨vb, Ab, hkb⟩ := hnt 1 b2 rfl; have n0 : (0 : Int) < (l3.length : Int) + 1 + 1 := by omega
     have n1 : (1 : Int) < (l3.length : Int) + 1 + 1 := by omega
     have k0 : (0 : Int) ≤ (j : Int) := by omega
     have k1 : (j : Int) < (T.kids.length : Int) := by have := hN3.out; omega
     have k3 : (j : Int) < (i : Int) := by omega
     obtain ⟨t0, t1, t2, t3, t4⟩ := At; have hcl : c < wq.heap.size := (Array.getElem?_eq_some_iff.1 hcb.out).1; have HO := Ok_cell (w := wq) (c := c) (by unfold World.cell?; rw [hcb.out]; rfl); have hqt := al_ch wq (nodeB t (.slice (some ⟨gt, 0, none⟩) (l3.length + 1 + 1) ct)); obtain ⟨b0, b1, q2, b3, q4⟩ := node_cells (World.alloc_heap_new wq (nodeB t (.slice (some ⟨gt, 0, none⟩) (l3.length + 1 + 1) ct))); have hct := (hqt.same c hcl (fun h => h)).trans hcb.out; have hOt := hid (hO.out.ch hqt (fun _ h => h.elim))
     replace hNms : Hid (NmsIn (wq.alloc (nodeB t (.slice (some ⟨gt, 0, none⟩) (l3.length + 1 + 1) ct))) (.slice na i nc) ((T.kids.take i).map (·.name))) := hid (by
      obtain ⟨a', c', h1, h2⟩ := hNms.out; refine ⟨a', c', h1, fun h0 => ?_⟩; obtain ⟨gn, h3, h4⟩ := h2 h0; refine ⟨gn, h3, fun z n hz => cell_keeps hqt ((hcq.out.cell (p := ⟨gn, z, none⟩) (block_lt_of_cell (h4 z n hz)) (hNo.out gn 0 none ?_)).trans (h4 z n hz))⟩
      obtain ⟨rfl, -, rfl⟩ : na = a' ∧ True ∧ nc = c' := by
       simp only [Value.slice.injEq] at h1; exact ⟨h1.1, trivial, h1.2.2⟩
      rw [h3])
     replace Aa := hid (Aa.of_heap (hqt.same gt Aa.lt (fun h => h))); replace Ab := hid (Ab.of_heap (hqt.same gt Ab.lt (fun h => h))); replace hka := hid (hka.quiet hqt); replace hkb := hid (hkb.quiet hqt); have hzt : Hid ((wq.alloc (nodeB t (.slice (some ⟨gt, 0, none⟩) (l3.length + 1 + 1) ct))).heap.size = wq.heap.size + 1) := hid (by simp); have hwl := hcq.out.size; have hct2 := hid (hcq.out.trans hqt (fun _ h => h.elim)); replace hpj := hid hprest; have hxy := hid (And.intro hx (And.intro hy (And.intro hra hrb))); have hxs2 := hid (And.intro hxs hys); replace hany := hid hany; replace ht := hid ht; clear hpt hkj hkt hkt2 hnt hprest hx hy hra hrb hxs hys b0 b1 b3 hqt
     go_upto_region 9 with (go_at_call 26; refine HO.mono ?_; clear HO; rintro en wk ⟨rfl, hwk⟩; obtain rfl := hwk.symm)
     go_upto_region 10 with (fail)
     clear t0 t1 t2 t3 t4 p3 p4; change Code.wp _ _ _ _ (wq.alloc (nodeB t (.slice (some ⟨gt, 0, none⟩) (l3.length + 1 + 1) ct))); generalize wq.alloc (nodeB t (.slice (some ⟨gt, 0, none⟩) (l3.length + 1 + 1) ct)) = wt at *
     have HC : Calls Try.prog 46 #[.pointer (some ⟨c, 0, none⟩), str t.name] wt fun en w' => en = .returned (.pointer none) ∧ Ch (fun _ => False) wt w' := (Op_any (c := c) (by unfold World.cell?; rw [hct]; rfl) (hOt.out.opsIn (fun _ _ _ => rfl)) (by rw [List.length_map]; omega) t.name).mono fun en w' h => by
      rcases h with ⟨hc, ⟨-, rfl⟩ | ⟨g', i', o', hf, -⟩⟩
      ·exact ⟨rfl, hc⟩
      ·have h1 := List.find?_some hf
       have h2 := hany.out; rw [List.any_eq_false] at h2; exact absurd h1 (h2 o' (List.mem_of_find?_eq_some hf))
     have q2c := q2
     go_upto_region 13 with (go_at_call 46; refine HC.mono ?_; clear HC; rintro en w3 ⟨rfl, hq3⟩)
     clear q2c; replace hq3 := hid hq3; have c33 : w3.cell? ⟨c, 3, none⟩ = some (.int .i64 0) := cell_keeps hq3.out (by unfold World.cell?; rw [hct]; rfl); have HC := Row_any k (hka.out.quiet hq3.out) c33 (hNms.out.ch hq3.out) (by simp; have := hN3.out; omega) hxy.out.2.2.1 hxy.out.1; have q4' := cell_keeps hq3.out q4; have a0 := cell_keeps hq3.out Aa.out.1; have a1 := cell_keeps hq3.out Aa.out.2.1; have a2 := cell_keeps hq3.out Aa.out.2.2.1; have a3 := cell_keeps hq3.out Aa.out.2.2.2.1; have a4 := cell_keeps hq3.out Aa.out.2.2.2.2
     go_upto_region 14 with (go_at_call 47; refine HC.mono ?_; clear HC; rintro en w4 ⟨rfl, hq4⟩)
     clear q4' a0 a1 a2 a3 a4 c33; replace hq4 := hid (hq3.out.trans hq4 (fun _ h => h.elim)); have c33 : w4.cell? ⟨c, 3, none⟩ = some (.int .i64 0) := cell_keeps hq4.out (by unfold World.cell?; rw [hct]; rfl); have HC := Row_any k (hkb.out.quiet hq4.out) c33 (hNms.out.ch hq4.out) (by simp; have := hN3.out; omega) hxy.out.2.2.2 hxy.out.2.1; have q4' := cell_keeps hq4.out q4; have d0 := cell_keeps hq4.out Ab.out.1; have d1 := cell_keeps hq4.out Ab.out.2.1; have d2 := cell_keeps hq4.out Ab.out.2.2.1; have d3 := cell_keeps hq4.out Ab.out.2.2.2.1; have d4 := cell_keeps hq4.out Ab.out.2.2.2.2
     go_upto_region 15 with (go_at_call 47; refine HC.mono ?_; clear HC; rintro en w5 ⟨rfl, hq5⟩)
     clear q4' d0 d1 d2 d3 d4 c33; replace hq5 := hid (hq4.out.trans hq5 (fun _ h => h.elim)); have HO := Ok_cell (w := w5) (c := c) (cell_keeps hq5.out (by unfold World.cell?; rw [hct]; rfl))
     go_upto_region 16 with (go_at_call 26; refine HO.mono ?_; clear HO; rintro en wk ⟨rfl, hwk⟩; obtain rfl := hwk.symm)
     have q4 := hid (cell_keeps hq5.out q4); have q2 := hid (cell_keeps hq5.out q2); have hct5 : Hid (w5.heap[c]? = some (ckB b ov)) := hid ((hq5.out.same c (Array.getElem?_eq_some_iff.1 hct).1 (fun h => h)).trans hct); have hO5 := hid (hOt.out.ch hq5.out (fun _ h => h.elim)); have hc5 := hid (hct2.out.trans hq5.out (fun _ h => h.elim)); have hgt5 : Hid (gt < w5.heap.size) := hid (Nat.lt_of_lt_of_le Aa.out.lt hq5.out.size); have hct6 : Hid (c < w5.heap.size) := hid (Array.getElem?_eq_some_iff.1 hct5.out).1; replace Aa := hid (Aa.out.of_heap (hq5.out.same gt Aa.out.lt (fun h => h))); replace Ab := hid (Ab.out.of_heap (hq5.out.same gt Ab.out.lt (fun h => h))); replace hka := hid (hka.out.quiet hq5.out); replace hkb := hid (hkb.out.quiet hq5.out); have hwr5 : Hid (wr.heap.size ≤ w5.heap.size) := hid hc5.out.size; clear hct hOt hct2 hNms hq3 hq4 hq5; generalize w5 = w1 at *
     go_cut [9] from 25 to 104 (fun s9 w4 => ∃ (B : Nat) (os1 az1 os2 az2 : Value), s9 = .pointer (some ⟨B, 0, none⟩) ∧ Hid (OpMid w1 w4 B ((⟨t.name, x, y⟩, (os1, az1, os2, az2), (j : Int)) : OD)))
     case first =>
      have HAf := hid (fun (W : World) (hW : Ch (fun _ => False) w1 W) => Type_any k (hka.out.quiet hW) hxy.out.1); have HBf := hid (fun (W : World) (hW : Ch (fun _ => False) w1 W) => Type_any k (hkb.out.quiet hW) hxy.out.2.1); have f4 := fun w' : World => Hold.cell (w' := w') q4.out; have f2 := fun w' : World => Hold.cell (w' := w') q2.out; have fa0 := fun w' : World => Hold.cell (w' := w') Aa.out.1; have fa1 := fun w' : World => Hold.cell (w' := w') Aa.out.2.1; have fa2 := fun w' : World => Hold.cell (w' := w') Aa.out.2.2.1; have fa3 := fun w' : World => Hold.cell (w' := w') Aa.out.2.2.2.1; have fa4 := fun w' : World => Hold.cell (w' := w') Aa.out.2.2.2.2; have fb0 := fun w' : World => Hold.cell (w' := w') Ab.out.1; have fb1 := fun w' : World => Hold.cell (w' := w') Ab.out.2.1; have fb2 := fun w' : World => Hold.cell (w' := w') Ab.out.2.2.1; have fb3 := fun w' : World => Hold.cell (w' := w') Ab.out.2.2.2.1; have fb4 := fun w' : World => Hold.cell (w' := w') Ab.out.2.2.2.2; have hcc := Ch.drew (fun _ => False) w1; have hS0 := Hold.of hcc; refine wp_region_held_drew (S := (Hold w1)) (by kernel_rfl) (by first | trivial | ((try dsimp only); go_keep)) (fun hHeld => ?_); refine tk 0 rfl ?_; refine tk 1 rfl ?_; refine tk 2 rfl ?_; refine tk 3 rfl ?_; refine tk 4 rfl ?_; refine tk 5 rfl ?_; refine tk 7 rfl ?_; refine tk 8 rfl ?_; refine tk 9 rfl ?_; refine tk 10 rfl ?_; refine tk 12 rfl ?_; refine rd2 6 14 rfl (fun K hK => ?_) rfl (fun K hK => ?_)
      ·go_simp
       refine ((HAf.out _ hcc).mono ?_); rintro en w2 ⟨os1, az1, rfl, hr1, hc1⟩; obtain ⟨⟨oa1, on1, oc1, ho1⟩, ⟨aa1, an1, ac1, ha1⟩⟩ := And.intro hr1.so hr1.sa; subst ho1 ha1; have z1 := hc1.size; have hcc := hcc.trans hc1 (fun _ h => .inl h); have hS5 := Hold.of hcc; replace hr1 := hid hr1; have hd1 : Hid (Ch (fun _ => False) w2 w2) := Ch.refl _ _; clear hc1
       dsimp only
       clear hHeld; refine gn hK (fun hHeld => ?_); clear hK K; refine rd2 11 14 rfl (fun K hK => ?_) rfl (fun K hK => ?_)
       ·go_simp
        refine ((HBf.out _ hcc).mono ?_); rintro en w3 ⟨os2, az2, rfl, hr2, hc2⟩; obtain ⟨⟨oa2, on2, oc2, ho2⟩, ⟨aa2, an2, ac2, ha2⟩⟩ := And.intro hr2.so hr2.sa; subst ho2 ha2; have z2 := hc2.size; have hcc := hcc.trans hc2 (fun _ h => .inl h); have hS5 := Hold.of hcc; replace hr2 := hid hr2; have hd1 := hid (hd1.out.trans hc2 (fun _ h => .inl h)); have hd2 : Hid (Ch (fun _ => False) w3 w3) := Ch.refl _ _; clear hc2
        dsimp only
        clear hHeld; refine gn hK (fun hHeld => ?_); clear hK K; refine tk 13 rfl ?_; refine rd1 14 rfl (fun K hK => ?_)
        go_simp
        have hcc := hcc.al opZ; have hS5 := Hold.of hcc; have hT := World.alloc_heap_new w3 opZ
        try have hd1 := hid (hd1.out.al opZ)
        try have hd2 := hid (hd2.out.al opZ)
        clear hHeld; refine gn hK (fun hHeld => ?_); clear hK K
        try simp only [al_size, drew_size] at hT
        generalize (w3.alloc opZ) = wx at *; have zx := hcc.size; obtain ⟨⟨v0, v1, v2, v3, v4, v5, v6, v7, v8, v9, v10, v11⟩, vf⟩ := opz_cells hT; refine rd1 15 rfl (fun K hK => ?_)
        go_simp
        have hst := set12_ch (O := fun j => j = (w3.heap.size)) (x := ((⟨t.name, x, y⟩, (.slice oa1 on1 oc1, .slice aa1 an1 ac1, .slice oa2 on2 oc2, .slice aa2 an2 ac2), (j : Int)) : OD)) (Ch.refl _ wx) (.inl rfl); have hS5 := Hold.o (Hold.of hcc) hst (by first | omega | (simp only [al_size, drew_size] at *; omega)); clear hHeld; refine gn hK (fun hHeld => ?_); clear hK K; refine wpAnyH_done (by kernel_rfl) ?_ _; clear hHeld; have hfT := set12_blk (x := ((⟨t.name, x, y⟩, (.slice oa1 on1 oc1, .slice aa1 an1 ac1, .slice oa2 on2 oc2, .slice aa2 an2 ac2), (j : Int)) : OD)) hT; have hf1 := hr1.out.skip (m := w1.heap.size) (B := (w3.heap.size)) (by first | omega | (simp only [al_size, drew_size] at *; omega)) (by first | omega | (simp only [al_size, drew_size] at *; omega)) ((hd1.out.mono (fun _ h => h.elim)).trans hst (fun _ h => .inl h)); have hf2 := hr2.out.skip (m := w1.heap.size) (B := (w3.heap.size)) (by first | omega | (simp only [al_size, drew_size] at *; omega)) (by first | omega | (simp only [al_size, drew_size] at *; omega)) ((hd2.out.mono (fun _ h => h.elim)).trans hst (fun _ h => .inl h)); have hfin := hid (OpMid.mk (x := ((⟨t.name, x, y⟩, (.slice oa1 on1 oc1, .slice aa1 an1 ac1, .slice oa2 on2 oc2, .slice aa2 an2 ac2), (j : Int)) : OD)) hfT (by first | omega | (simp only [al_size, drew_size] at *; omega)) (hcc.old hst (fun j e => by subst e; first | omega | (simp only [al_size, drew_size] at *; omega))) hf1 hf2); clear v0 v1 v2 v3 v4 v5 v6 v7 v8 v9 v10 v11 vf hS5
        go_wp2_with fail
        go_meet
        case rel => exact ⟨_, _, _, _, _, by first | rfl | simp, hfin⟩
       ·go_simp
        have hcc := hcc.al opZ; have hS5 := Hold.of hcc; have hT := World.alloc_heap_new w2 opZ
        try have hd1 := hid (hd1.out.al opZ)
        try have hd2 := hid (hd2.out.al opZ)
        clear hHeld; refine gn hK (fun hHeld => ?_); clear hK K; refine rd1 11 rfl (fun K hK => ?_)
        go_simp
        refine ((HBf.out _ hcc).mono ?_); rintro en w3 ⟨os2, az2, rfl, hr2, hc2⟩; obtain ⟨⟨oa2, on2, oc2, ho2⟩, ⟨aa2, an2, ac2, ha2⟩⟩ := And.intro hr2.so hr2.sa; subst ho2 ha2; have z2 := hc2.size; have hcc := hcc.trans hc2 (fun _ h => .inl h); have hS5 := Hold.of hcc; have hT := (hc2.same _ (Array.getElem?_eq_some_iff.1 hT).1 (fun h => h)).trans hT; replace hr2 := hid hr2; have hd1 := hid (hd1.out.trans hc2 (fun _ h => .inl h)); have hd2 : Hid (Ch (fun _ => False) w3 w3) := Ch.refl _ _; clear hc2
        dsimp only
        clear hHeld; refine gn hK (fun hHeld => ?_); clear hK K; refine tk 13 rfl ?_
        try simp only [al_size, drew_size] at hT
        generalize w3 = wx at *; have zx := hcc.size; obtain ⟨⟨v0, v1, v2, v3, v4, v5, v6, v7, v8, v9, v10, v11⟩, vf⟩ := opz_cells hT; refine rd1 15 rfl (fun K hK => ?_)
        go_simp
        have hst := set12_ch (O := fun j => j = (w2.heap.size)) (x := ((⟨t.name, x, y⟩, (.slice oa1 on1 oc1, .slice aa1 an1 ac1, .slice oa2 on2 oc2, .slice aa2 an2 ac2), (j : Int)) : OD)) (Ch.refl _ wx) (.inl rfl); have hS5 := Hold.o (Hold.of hcc) hst (by first | omega | (simp only [al_size, drew_size] at *; omega)); clear hHeld; refine gn hK (fun hHeld => ?_); clear hK K; refine wpAnyH_done (by kernel_rfl) ?_ _; clear hHeld; have hfT := set12_blk (x := ((⟨t.name, x, y⟩, (.slice oa1 on1 oc1, .slice aa1 an1 ac1, .slice oa2 on2 oc2, .slice aa2 an2 ac2), (j : Int)) : OD)) hT; have hf1 := hr1.out.skip (m := w1.heap.size) (B := (w2.heap.size)) (by first | omega | (simp only [al_size, drew_size] at *; omega)) (by first | omega | (simp only [al_size, drew_size] at *; omega)) ((hd1.out.mono (fun _ h => h.elim)).trans hst (fun _ h => .inl h)); have hf2 := hr2.out.skip (m := w1.heap.size) (B := (w2.heap.size)) (by first | omega | (simp only [al_size, drew_size] at *; omega)) (by first | omega | (simp only [al_size, drew_size] at *; omega)) ((hd2.out.mono (fun _ h => h.elim)).trans hst (fun _ h => .inl h)); have hfin := hid (OpMid.mk (x := ((⟨t.name, x, y⟩, (.slice oa1 on1 oc1, .slice aa1 an1 ac1, .slice oa2 on2 oc2, .slice aa2 an2 ac2), (j : Int)) : OD)) hfT (by first | omega | (simp only [al_size, drew_size] at *; omega)) (hcc.old hst (fun j e => by subst e; first | omega | (simp only [al_size, drew_size] at *; omega))) hf1 hf2); clear v0 v1 v2 v3 v4 v5 v6 v7 v8 v9 v10 v11 vf hS5
        go_wp2_with fail
        go_meet
        case rel => exact ⟨_, _, _, _, _, by first | rfl | simp, hfin⟩
      ·go_simp
       have hcc := hcc.al opZ; have hS5 := Hold.of hcc; have hT := World.alloc_heap_new w1.drew opZ
       try have hd1 := hid (hd1.out.al opZ)
       try have hd2 := hid (hd2.out.al opZ)
       clear hHeld; refine gn hK (fun hHeld => ?_); clear hK K; refine rd1 6 rfl (fun K hK => ?_)
       go_simp
       refine ((HAf.out _ hcc).mono ?_); rintro en w2 ⟨os1, az1, rfl, hr1, hc1⟩; obtain ⟨⟨oa1, on1, oc1, ho1⟩, ⟨aa1, an1, ac1, ha1⟩⟩ := And.intro hr1.so hr1.sa; subst ho1 ha1; have z1 := hc1.size; have hcc := hcc.trans hc1 (fun _ h => .inl h); have hS5 := Hold.of hcc; have hT := (hc1.same _ (Array.getElem?_eq_some_iff.1 hT).1 (fun h => h)).trans hT; replace hr1 := hid hr1; have hd1 : Hid (Ch (fun _ => False) w2 w2) := Ch.refl _ _; clear hc1
       dsimp only
       clear hHeld; refine gn hK (fun hHeld => ?_); clear hK K; refine rd1 11 rfl (fun K hK => ?_)
       go_simp
       refine ((HBf.out _ hcc).mono ?_); rintro en w3 ⟨os2, az2, rfl, hr2, hc2⟩; obtain ⟨⟨oa2, on2, oc2, ho2⟩, ⟨aa2, an2, ac2, ha2⟩⟩ := And.intro hr2.so hr2.sa; subst ho2 ha2; have z2 := hc2.size; have hcc := hcc.trans hc2 (fun _ h => .inl h); have hS5 := Hold.of hcc; have hT := (hc2.same _ (Array.getElem?_eq_some_iff.1 hT).1 (fun h => h)).trans hT; replace hr2 := hid hr2; have hd1 := hid (hd1.out.trans hc2 (fun _ h => .inl h)); have hd2 : Hid (Ch (fun _ => False) w3 w3) := Ch.refl _ _; clear hc2
       dsimp only
       clear hHeld; refine gn hK (fun hHeld => ?_); clear hK K; refine tk 13 rfl ?_
       try simp only [al_size, drew_size] at hT
       generalize w3 = wx at *; have zx := hcc.size; obtain ⟨⟨v0, v1, v2, v3, v4, v5, v6, v7, v8, v9, v10, v11⟩, vf⟩ := opz_cells hT; refine rd1 15 rfl (fun K hK => ?_)
       go_simp
       have hst := set12_ch (O := fun j => j = (w1.heap.size)) (x := ((⟨t.name, x, y⟩, (.slice oa1 on1 oc1, .slice aa1 an1 ac1, .slice oa2 on2 oc2, .slice aa2 an2 ac2), (j : Int)) : OD)) (Ch.refl _ wx) (.inl rfl); have hS5 := Hold.o (Hold.of hcc) hst (by first | omega | (simp only [al_size, drew_size] at *; omega)); clear hHeld; refine gn hK (fun hHeld => ?_); clear hK K; refine wpAnyH_done (by kernel_rfl) ?_ _; clear hHeld; have hfT := set12_blk (x := ((⟨t.name, x, y⟩, (.slice oa1 on1 oc1, .slice aa1 an1 ac1, .slice oa2 on2 oc2, .slice aa2 an2 ac2), (j : Int)) : OD)) hT; have hf1 := hr1.out.skip (m := w1.heap.size) (B := (w1.heap.size)) (by first | omega | (simp only [al_size, drew_size] at *; omega)) (by first | omega | (simp only [al_size, drew_size] at *; omega)) ((hd1.out.mono (fun _ h => h.elim)).trans hst (fun _ h => .inl h)); have hf2 := hr2.out.skip (m := w1.heap.size) (B := (w1.heap.size)) (by first | omega | (simp only [al_size, drew_size] at *; omega)) (by first | omega | (simp only [al_size, drew_size] at *; omega)) ((hd2.out.mono (fun _ h => h.elim)).trans hst (fun _ h => .inl h)); have hfin := hid (OpMid.mk (x := ((⟨t.name, x, y⟩, (.slice oa1 on1 oc1, .slice aa1 an1 ac1, .slice oa2 on2 oc2, .slice aa2 an2 ac2), (j : Int)) : OD)) hfT (by first | omega | (simp only [al_size, drew_size] at *; omega)) (hcc.old hst (fun j e => by subst e; first | omega | (simp only [al_size, drew_size] at *; omega))) hf1 hf2); clear v0 v1 v2 v3 v4 v5 v6 v7 v8 v9 v10 v11 vf hS5
       go_wp2_with fail
       go_meet
       case rel => exact ⟨_, _, _, _, _, by first | rfl | simp, hfin⟩
     case rest =>
      obtain ⟨B, os1, az1, os2, az2, rfl, hm⟩ := hcut; generalize wc = w6 at *; have hsl := hid (And.intro hm.out.r1.1 (And.intro hm.out.r1.2.1 (And.intro hm.out.r2.1 hm.out.r2.2.1))); obtain ⟨⟨v0, v1, v2, v3, v4, v5, v6, v7, v8, v9, v10, v11⟩, -⟩ := op_cells hm.out.t; have HP1 := Parts_ty x (hm.out.r1.2.2 w6 (fun _ _ _ _ => rfl)) (typ_wt hxy.out.1) (by have := hxs2.out.1; omega); have hp1 : ¬ (300 : Int) < ((x.parts : Nat) : Int) := by have := hxs2.out.1; omega
      have hp2 : ¬ (300 : Int) < ((y.parts : Nat) : Int) := by have := hxs2.out.2; omega
      have HP2 := hid (fun (W : World) (hW : Ch (fun _ => False) w6 W) => Parts_ty y (w := W) (hm.out.r2.2.2 W (fun z h1 h2 _ => hW.same z h2 (fun h => h))) (typ_wt hxy.out.2.1) (by have := hxs2.out.2; omega)); have hmt := hm.out.t
      go_upto_region 19 with (first
       | (go_at_call 49; refine HP1.mono ?_; clear HP1; rintro en w7 ⟨rfl, hq7⟩; have HP3 := HP2.out w7 hq7; have hmt7 := (hq7.same B (Array.getElem?_eq_some_iff.1 hmt).1 (fun h => h)).trans hmt; obtain ⟨⟨v0, v1, v2, v3, v4, v5, v6, v7, v8, v9, v10, v11⟩, -⟩ := op_cells hmt7)
       | (go_at_call 49; refine HP3.mono ?_; clear HP3; rintro en w8 ⟨rfl, hq8⟩))
      replace hq8 := hid (hq7.trans hq8 (fun _ h => .inl h)); have hBB8 : Hid (w8.heap[B]? = some (opB ((⟨t.name, x, y⟩, (os1, az1, os2, az2), (j : Int)) : OD))) := hid ((hq8.out.same B (Array.getElem?_eq_some_iff.1 hmt).1 (fun h => h)).trans hmt); have hcb8 : Hid (w8.heap[c]? = some (ckB b ov)) := hid ((hq8.out.same c (Nat.lt_of_lt_of_le hct6.out hm.out.c.size) (fun h => h)).trans ((hm.out.c.same c hct6.out (fun h => h)).trans hct5.out)); have hcl8 := (Array.getElem?_eq_some_iff.1 hcb8.out).1; have hBl8 := (Array.getElem?_eq_some_iff.1 hBB8.out).1; obtain ⟨ea, ecap, hev, -, -⟩ := row_slice hO5.out.row; have hnc : Hid (ov.ownBlock ≠ some c) := hid fun e => by have := hO5.out.lo c e; omega
      have hnB : Hid (ov.ownBlock ≠ some B) := hid fun e => by have := ownsRow_lt hO5.out.row e; have := hm.out.lB; omega
      have hr : Hid (w8.ownsRow 0 98 12 ov ol.length (opsC ol)) := hid (ownsRow_keep hO5.out.row (fun z hz => (hq8.out.same z (Nat.lt_of_lt_of_le (ownsRow_lt hO5.out.row hz) hm.out.c.size) (fun h => h)).trans (hm.out.c.same z (ownsRow_lt hO5.out.row hz) (fun h => h)))); subst hev; have hS0 : (fun w' => w'.heap[B]? = some (opB ((⟨t.name, x, y⟩, (os1, az1, os2, az2), (j : Int)) : OD))) w8.drew := hBB8.out; obtain ⟨-, -, c82, -, -⟩ := ck_cells hcb8.out; have hBc : Hid (B ≠ c) := hid (by have := hm.out.lB; have := hct6.out; omega); have fB0 := fun (w' : World) (h : (fun w' => w'.heap[B]? = some (opB ((⟨t.name, x, y⟩, (os1, az1, os2, az2), (j : Int)) : OD))) w') => (op_cells h).1.1; have fB1 := fun (w' : World) (h : (fun w' => w'.heap[B]? = some (opB ((⟨t.name, x, y⟩, (os1, az1, os2, az2), (j : Int)) : OD))) w') => (op_cells h).1.2.1; have fB2 := fun (w' : World) (h : (fun w' => w'.heap[B]? = some (opB ((⟨t.name, x, y⟩, (os1, az1, os2, az2), (j : Int)) : OD))) w') => (op_cells h).1.2.2.1; have fB3 := fun (w' : World) (h : (fun w' => w'.heap[B]? = some (opB ((⟨t.name, x, y⟩, (os1, az1, os2, az2), (j : Int)) : OD))) w') => (op_cells h).1.2.2.2.1; have fB4 := fun (w' : World) (h : (fun w' => w'.heap[B]? = some (opB ((⟨t.name, x, y⟩, (os1, az1, os2, az2), (j : Int)) : OD))) w') => (op_cells h).1.2.2.2.2.1; have fB5 := fun (w' : World) (h : (fun w' => w'.heap[B]? = some (opB ((⟨t.name, x, y⟩, (os1, az1, os2, az2), (j : Int)) : OD))) w') => (op_cells h).1.2.2.2.2.2.1; have fB6 := fun (w' : World) (h : (fun w' => w'.heap[B]? = some (opB ((⟨t.name, x, y⟩, (os1, az1, os2, az2), (j : Int)) : OD))) w') => (op_cells h).1.2.2.2.2.2.2.1; have fB7 := fun (w' : World) (h : (fun w' => w'.heap[B]? = some (opB ((⟨t.name, x, y⟩, (os1, az1, os2, az2), (j : Int)) : OD))) w') => (op_cells h).1.2.2.2.2.2.2.2.1; have fB8 := fun (w' : World) (h : (fun w' => w'.heap[B]? = some (opB ((⟨t.name, x, y⟩, (os1, az1, os2, az2), (j : Int)) : OD))) w') => (op_cells h).1.2.2.2.2.2.2.2.2.1; have fB9 := fun (w' : World) (h : (fun w' => w'.heap[B]? = some (opB ((⟨t.name, x, y⟩, (os1, az1, os2, az2), (j : Int)) : OD))) w') => (op_cells h).1.2.2.2.2.2.2.2.2.2.1; have fB10 := fun (w' : World) (h : (fun w' => w'.heap[B]? = some (opB ((⟨t.name, x, y⟩, (os1, az1, os2, az2), (j : Int)) : OD))) w') => (op_cells h).1.2.2.2.2.2.2.2.2.2.2.1; have fB11 := fun (w' : World) (h : (fun w' => w'.heap[B]? = some (opB ((⟨t.name, x, y⟩, (os1, az1, os2, az2), (j : Int)) : OD))) w') => (op_cells h).1.2.2.2.2.2.2.2.2.2.2.2; clear v0 v1 v2 v3 v4 v5 v6 v7 v8 v9 v10 v11 hmt7 hmt; refine wp_region_held_drew (S := (fun w' => w'.heap[B]? = some (opB ((⟨t.name, x, y⟩, (os1, az1, os2, az2), (j : Int)) : OD)))) (by kernel_rfl) (by first | trivial | ((try dsimp only); go_keep)) (fun hHeld => ?_); refine tk 0 rfl ?_; refine tk 1 rfl ?_; refine tk 2 rfl ?_; refine tk 3 rfl ?_; refine tk 5 rfl ?_; refine rd2 4 6 rfl (fun K hK => ?_) rfl (fun K hK => ?_)
      ·go_simp
       have hS5 : (fun w' => w'.heap[B]? = some (opB ((⟨t.name, x, y⟩, (os1, az1, os2, az2), (j : Int)) : OD))) w8.drew := hBB8.out; clear hHeld; refine gn hK (fun hHeld => ?_); clear hK K; refine rd1 6 rfl (fun K hK => ?_)
       go_simp
       have hS5 : (fun w' => w'.heap[B]? = some (opB ((⟨t.name, x, y⟩, (os1, az1, os2, az2), (j : Int)) : OD))) (w8.drew.alloc (opB ((⟨t.name, x, y⟩, (os1, az1, os2, az2), (j : Int)) : OD))) := (Below.heap_alloc w8.drew _ _ (by simpa using hBl8)).trans hBB8.out; clear hHeld; refine gn hK (fun hHeld => ?_); clear hK K; refine rd1 7 rfl (fun K hK => ?_); have hb8 := World.alloc_heap_new w8.drew (opB ((⟨t.name, x, y⟩, (os1, az1, os2, az2), (j : Int)) : OD)); have hr2 := hid (ownsRow_keep hr.out (w' := w8.drew.alloc (opB ((⟨t.name, x, y⟩, (os1, az1, os2, az2), (j : Int)) : OD))) (fun z hz => (Below.heap_alloc w8.drew _ z (by have := ownsRow_lt hr.out hz; simpa using this)))); refine step_append rfl (.tmp 99) (.tmp 101) 64 rfl 98 _ 12 168 Try.underlying64 Try.infoOpr rfl (by decide) (.slice ea ol.length ecap) ol.length (opsC ol) rfl hr2.out ⟨w8.drew.heap.size, 0, none⟩ 1 1 (opC ((⟨t.name, x, y⟩, (os1, az1, os2, az2), (j : Int)) : OD)) rfl rfl (new_cells w8.drew (opC ((⟨t.name, x, y⟩, (os1, az1, os2, az2), (j : Int)) : OD)) 98) (opC_one hsl.out) (by unfold maxLen; omega) (by omega) ?_; intro v' w9 hrow hgr hblk; obtain ⟨ug, ucap, rfl⟩ := ownsRow_succ hrow; have hcc9 : w9.heap[c]? = some (ckB b (.slice ea ol.length ecap)) := (hgr.block _ (by simp; omega) (fun e => hnc.out e.symm)).trans ((Below.heap_alloc w8.drew _ _ (by simpa using hcl8)).trans hcb8.out); have hBB9 : w9.heap[B]? = some (opB ((⟨t.name, x, y⟩, (os1, az1, os2, az2), (j : Int)) : OD)) := (hgr.block _ (by simp; omega) (fun e => hnB.out e.symm)).trans ((Below.heap_alloc w8.drew _ _ (by simpa using hBl8)).trans hBB8.out); have hS5 : (fun w' => w'.heap[B]? = some (opB ((⟨t.name, x, y⟩, (os1, az1, os2, az2), (j : Int)) : OD))) w9 := hBB9; have cf9 : ∀ i, w9.frozen? ⟨c, i, none⟩ = false := fun i => by unfold World.frozen?; rw [hcc9]; simp
       obtain ⟨g0, g1, g2, g3, g4⟩ := ck_cells hcc9; replace hrow := hid hrow; replace hgr := hid hgr; replace hblk := hid hblk; clear hb8 hr2; clear hHeld; refine gn hK (fun hHeld => ?_); clear hK K; refine tk 8 rfl ?_; refine tk 9 rfl ?_; refine rd1 10 rfl (fun K hK => ?_)
       go_simp
       clear hS5; have hS5 : (fun w' => w'.heap[B]? = some (opB ((⟨t.name, x, y⟩, (os1, az1, os2, az2), (j : Int)) : OD))) (w9.setCell ⟨c, 2, none⟩ (.slice (some ⟨ug, 0, none⟩) (ol.length + 1) ucap)) := (Below.heap_setCell w9 ⟨c, 2, none⟩ _ B hBc.out).trans hBB9; clear hHeld; refine gn hK (fun hHeld => ?_); clear hK K; refine wpAnyH_done (by kernel_rfl) ?_ _; clear hHeld; have hOO := hid (OM.snoc (x := ((⟨t.name, x, y⟩, (os1, az1, os2, az2), (j : Int)) : OD)) hO5.out (hm.out.c.trans ((hq8.out.trans (Ch.drew (fun _ => False) w8) (fun _ h => .inl h)).al (opB ((⟨t.name, x, y⟩, (os1, az1, os2, az2), (j : Int)) : OD))) (fun _ h => .inl h)) hrow.out hgr.out hblk.out hwr5.out (hm.out.r1.ch ((hq8.out.trans (Ch.drew (fun _ => False) w8) (fun _ h => .inl h)).al (opB ((⟨t.name, x, y⟩, (os1, az1, os2, az2), (j : Int)) : OD)))) (hm.out.r2.ch ((hq8.out.trans (Ch.drew (fun _ => False) w8) (fun _ h => .inl h)).al (opB ((⟨t.name, x, y⟩, (os1, az1, os2, az2), (j : Int)) : OD))))); have hcE := hid (blk_set (i := 2) (v := .slice (some ⟨ug, 0, none⟩) (ol.length + 1) ucap) hcc9); have hchE : Hid (Ch (fun z => z = c) wr (w9.setCell ⟨c, 2, none⟩ (.slice (some ⟨ug, 0, none⟩) (ol.length + 1) ucap))) := hid ((((hc5.out.trans hm.out.c (fun _ h => h.elim)).trans ((hq8.out.trans (Ch.drew (fun _ => False) w8) (fun _ h => .inl h)).al (opB ((⟨t.name, x, y⟩, (os1, az1, os2, az2), (j : Int)) : OD))) (fun _ h => h.elim)).trans (Ch.grown (O := fun z => Value.ownBlock (.slice ea ol.length ecap) = some z) hgr.out (fun _ h => h)) (fun z hz => .inr (hO5.out.lo z hz))).trans (Ch.setCell (O := fun z => z = c) w9 ⟨c, 2, none⟩ _ rfl) (fun _ h => .inl h)); clear g0 g1 g2 g3 g4 cf9 hBB9 hS5 c82
       go_wp2_with fail
       go_roundg (i + 1 - (j + 1))
       case measure => omega
       case rel =>
        refine ⟨j + 1, by simp, by omega, rfl, _, ol ++ [((⟨t.name, x, y⟩, (os1, az1, os2, az2), (j : Int)) : OD)], by simp; omega, hid (hcE.out.trans (by simp)), hid (hOO.out.ch (Ch.setCell (O := fun z => z = c) w9 ⟨c, 2, none⟩ _ rfl) (fun z e => e ▸ hcw)), hchE, hid ?_⟩; rw [List.map_append]; exact hpj.out
      ·go_simp
       have hS5 : (fun w' => w'.heap[B]? = some (opB ((⟨t.name, x, y⟩, (os1, az1, os2, az2), (j : Int)) : OD))) (w8.drew.alloc (opB ((⟨t.name, x, y⟩, (os1, az1, os2, az2), (j : Int)) : OD))) := (Below.heap_alloc w8.drew _ _ (by simpa using hBl8)).trans hBB8.out; clear hHeld; refine gn hK (fun hHeld => ?_); clear hK K; refine rd1 4 rfl (fun K hK => ?_)
       go_simp
       have hS5 : (fun w' => w'.heap[B]? = some (opB ((⟨t.name, x, y⟩, (os1, az1, os2, az2), (j : Int)) : OD))) (w8.drew.alloc (opB ((⟨t.name, x, y⟩, (os1, az1, os2, az2), (j : Int)) : OD))) := (Below.heap_alloc w8.drew _ _ (by simpa using hBl8)).trans hBB8.out; clear hHeld; refine gn hK (fun hHeld => ?_); clear hK K; refine rd1 7 rfl (fun K hK => ?_); have hb8 := World.alloc_heap_new w8.drew (opB ((⟨t.name, x, y⟩, (os1, az1, os2, az2), (j : Int)) : OD)); have hr2 := hid (ownsRow_keep hr.out (w' := w8.drew.alloc (opB ((⟨t.name, x, y⟩, (os1, az1, os2, az2), (j : Int)) : OD))) (fun z hz => (Below.heap_alloc w8.drew _ z (by have := ownsRow_lt hr.out hz; simpa using this)))); refine step_append rfl (.tmp 99) (.tmp 101) 64 rfl 98 _ 12 168 Try.underlying64 Try.infoOpr rfl (by decide) (.slice ea ol.length ecap) ol.length (opsC ol) rfl hr2.out ⟨w8.drew.heap.size, 0, none⟩ 1 1 (opC ((⟨t.name, x, y⟩, (os1, az1, os2, az2), (j : Int)) : OD)) rfl rfl (new_cells w8.drew (opC ((⟨t.name, x, y⟩, (os1, az1, os2, az2), (j : Int)) : OD)) 98) (opC_one hsl.out) (by unfold maxLen; omega) (by omega) ?_; intro v' w9 hrow hgr hblk; obtain ⟨ug, ucap, rfl⟩ := ownsRow_succ hrow; have hcc9 : w9.heap[c]? = some (ckB b (.slice ea ol.length ecap)) := (hgr.block _ (by simp; omega) (fun e => hnc.out e.symm)).trans ((Below.heap_alloc w8.drew _ _ (by simpa using hcl8)).trans hcb8.out); have hBB9 : w9.heap[B]? = some (opB ((⟨t.name, x, y⟩, (os1, az1, os2, az2), (j : Int)) : OD)) := (hgr.block _ (by simp; omega) (fun e => hnB.out e.symm)).trans ((Below.heap_alloc w8.drew _ _ (by simpa using hBl8)).trans hBB8.out); have hS5 : (fun w' => w'.heap[B]? = some (opB ((⟨t.name, x, y⟩, (os1, az1, os2, az2), (j : Int)) : OD))) w9 := hBB9; have cf9 : ∀ i, w9.frozen? ⟨c, i, none⟩ = false := fun i => by unfold World.frozen?; rw [hcc9]; simp
       obtain ⟨g0, g1, g2, g3, g4⟩ := ck_cells hcc9; replace hrow := hid hrow; replace hgr := hid hgr; replace hblk := hid hblk; clear hb8 hr2; clear hHeld; refine gn hK (fun hHeld => ?_); clear hK K; refine tk 8 rfl ?_; refine tk 9 rfl ?_; refine rd1 10 rfl (fun K hK => ?_)
       go_simp
       clear hS5; have hS5 : (fun w' => w'.heap[B]? = some (opB ((⟨t.name, x, y⟩, (os1, az1, os2, az2), (j : Int)) : OD))) (w9.setCell ⟨c, 2, none⟩ (.slice (some ⟨ug, 0, none⟩) (ol.length + 1) ucap)) := (Below.heap_setCell w9 ⟨c, 2, none⟩ _ B hBc.out).trans hBB9; clear hHeld; refine gn hK (fun hHeld => ?_); clear hK K; refine wpAnyH_done (by kernel_rfl) ?_ _; clear hHeld; have hOO := hid (OM.snoc (x := ((⟨t.name, x, y⟩, (os1, az1, os2, az2), (j : Int)) : OD)) hO5.out (hm.out.c.trans ((hq8.out.trans (Ch.drew (fun _ => False) w8) (fun _ h => .inl h)).al (opB ((⟨t.name, x, y⟩, (os1, az1, os2, az2), (j : Int)) : OD))) (fun _ h => .inl h)) hrow.out hgr.out hblk.out hwr5.out (hm.out.r1.ch ((hq8.out.trans (Ch.drew (fun _ => False) w8) (fun _ h => .inl h)).al (opB ((⟨t.name, x, y⟩, (os1, az1, os2, az2), (j : Int)) : OD)))) (hm.out.r2.ch ((hq8.out.trans (Ch.drew (fun _ => False) w8) (fun _ h => .inl h)).al (opB ((⟨t.name, x, y⟩, (os1, az1, os2, az2), (j : Int)) : OD))))); have hcE := hid (blk_set (i := 2) (v := .slice (some ⟨ug, 0, none⟩) (ol.length + 1) ucap) hcc9); have hchE : Hid (Ch (fun z => z = c) wr (w9.setCell ⟨c, 2, none⟩ (.slice (some ⟨ug, 0, none⟩) (ol.length + 1) ucap))) := hid ((((hc5.out.trans hm.out.c (fun _ h => h.elim)).trans ((hq8.out.trans (Ch.drew (fun _ => False) w8) (fun _ h => .inl h)).al (opB ((⟨t.name, x, y⟩, (os1, az1, os2, az2), (j : Int)) : OD))) (fun _ h => h.elim)).trans (Ch.grown (O := fun z => Value.ownBlock (.slice ea ol.length ecap) = some z) hgr.out (fun _ h => h)) (fun z hz => .inr (hO5.out.lo z hz))).trans (Ch.setCell (O := fun z => z = c) w9 ⟨c, 2, none⟩ _ rfl) (fun _ h => .inl h)); clear g0 g1 g2 g3 g4 cf9 hBB9 hS5 c82
       go_wp2_with fail
       go_roundg (i + 1 - (j + 1))
       case measure => omega
       case rel =>
        refine ⟨j + 1, by simp, by omega, rfl, _, ol ++ [((⟨t.name, x, y⟩, (os1, az1, os2, az2), (j : Int)) : OD)], by simp; omega, hid (hcE.out.trans (by simp)), hid (hOO.out.ch (Ch.setCell (O := fun z => z = c) w9 ⟨c, 2, none⟩ _ rfl) (fun z e => e ▸ hcw)), hchE, hid ?_⟩; rw [List.map_append]; exact hpj.out
    ·obtain rfl : j = i := by omega
     have k3 : ¬ (j : Int) < (j : Int) := by omega
     have hz := hpj.out; rw [List.drop_of_length_le (by simp; omega)] at hz; obtain rfl := Option.some.inj hz
     go_wp2_with fail
     (first | go_end0 | ((try simp only [Exit.inBlock, Exit.then]); refine bodyPost_ret (results_none rfl _ _ _) rfl ?_))
     exact ⟨by first | rfl | simp, ov, ol, rfl, hcb.out, hO.out.lower (by omega), hcc2.out.mono (O1 := fun z => z = c) (fun _ h => h.elim) |>.trans hcq.out (fun _ h => .inl h)⟩
end Go.Proofs.Ytejciampbnfbhaa
