import Derived.Test.YtejciampbnfbhaaHw
import Derived.Test.YtejciampbnfbhaaJzX
import Derived.Test.YtejciampbnfbhaaRxT
set_option linter.unusedVariables false
set_option linter.unusedSimpArgs false
set_option maxRecDepth 100000
set_option maxHeartbeats 16000000
namespace Go.Proofs.Ytejciampbnfbhaa
open Go.RowKit Ie
theorem Check_any {f k : Nat} {w : World} {F : Nat → Prop} {T : Sy.Tr} {v : Value} {L : List (Un.Nm × Ty.P)} (hv : Kids w F v T.kids) (hF : ∀ q, F q → q < w.heap.size) (hkind : T.kind = 0) {N : Nat} (hN : T.num = (N : Int)) (hN2 : N < T.kids.length) (hlen : T.kids.length + 2 * (k + 1) < 1000000) (hp : checkE f k T = some L) (hsh : ∀ x ∈ L, shB x.2 = true ∧ x.2.parts ≤ 1000000) :
  Calls Try.prog 8 #[nodeV T v] w fun en w' => ∃ ov, en = .returned (.tuple #[ov, .agg #[.int .i64 0, .int .i64 0]]) ∧ ∃ ps, ps.map (·.1) = L.map (·.1) ∧ w'.ownsRow 0 32 2 ov ps.length (tpsC ps) ∧ Ch (fun _ => False) w w' ∧ (∀ z, ov.ownBlock = some z → w.heap.size ≤ z) := by
 obtain ⟨va, vl, vc, rfl⟩ := hv.sl
 have hq0 := hid ((al_ch w (nodeB T (.slice va vl vc))).al (.cells #[.int .i64 0, .int .i64 0] 28))
 have hz0 : Hid (((w.alloc (nodeB T (.slice va vl vc))).alloc (.cells #[.int .i64 0, .int .i64 0] 28)).heap.size = w.heap.size + 1 + 1) := hid (by simp)
 have hb0 := blk_alloc (x := .cells #[.int .i64 0, .int .i64 0] 28) (World.alloc_heap_new w (nodeB T (.slice va vl vc)))
 have hb1 := World.alloc_heap_new (w.alloc (nodeB T (.slice va vl vc))) (.cells #[.int .i64 0, .int .i64 0] 28)
 simp only [al_size] at hb1
 have HC := Found_any (hv.quiet hq0.out) (F := F) (fun q h => Nat.lt_of_lt_of_le (hF q h) hq0.out.size) hkind hN hN2 hlen hp hsh
 obtain ⟨p0, p1, p2, p3, p4⟩ := node_cells hb0
 clear hv hF hkind hN hN2 hlen hp hsh hb0
 replace hb1 := hid hb1
 go_enter Try.func8, Try.ntmps8
 go_upto_region 1 with (fail)
 change Code.wp _ _ _ _ ((w.alloc (nodeB T (.slice va vl vc))).alloc (.cells #[.int .i64 0, .int .i64 0] 28))
 generalize (w.alloc (nodeB T (.slice va vl vc))).alloc (.cells #[.int .i64 0, .int .i64 0] 28) = w0 at *
 go_upto_region 2 with (go_at_call 13; refine HC.mono ?_; clear HC; rintro en w1 ⟨ov, kk, nn, rr, os, az, ps, rfl, ⟨a1, l1, c1, rfl⟩, ⟨a2, l2, c2, rfl⟩, hps, hrow, hc1, hro1⟩)
 clear p0 p1 p2 p3 p4
 have hqv := hid ((al_ch w1 (tyB kk nn rr (.slice a1 l1 c1) (.slice a2 l2 c2))).al (.cells #[.int .i64 0, .int .i64 0] 28))
 have hS0 := World.alloc_heap_new (w1.alloc (tyB kk nn rr (.slice a1 l1 c1) (.slice a2 l2 c2))) (.cells #[.int .i64 0, .int .i64 0] 28)
 simp only [al_size] at hS0
 change Code.wp _ _ _ _ ((w1.alloc (tyB kk nn rr (.slice a1 l1 c1) (.slice a2 l2 c2))).alloc (.cells #[.int .i64 0, .int .i64 0] 28))
 generalize ((w1.alloc (tyB kk nn rr (.slice a1 l1 c1) (.slice a2 l2 c2))).alloc (.cells #[.int .i64 0, .int .i64 0] 28)) = wv at *
 have hzz : Hid ((w.heap.size + 1) < w1.heap.size) := hid (by have := hz0.out; have := hc1.size; omega)
 have hE2 := hid ((hqv.out.same _ hzz.out (fun h => h)).trans ((hc1.same _ (Array.getElem?_eq_some_iff.1 hb1.out).1 (fun h => h)).trans hb1.out))
 have hro : Hid (∀ z, ov.ownBlock = some z → w.heap.size + 1 + 1 ≤ z) := hid (fun z hz => by have := hro1 z hz; have := hz0.out; omega)
 replace hrow := hid (ownsRow_keep (w' := wv) hrow (fun z hz => hqv.out.same z (ownsRow_lt hrow hz) (fun h => h)))
 have hcv := hid ((hq0.out.trans hc1 (fun _ h => .inl h)).trans hqv.out (fun _ h => .inl h))
 have z0 : wv.cell? ⟨(w.heap.size + 1), 0, none⟩ = some (.int .i64 0) := by unfold World.cell?; rw [hE2.out]; rfl
 have z1 : wv.cell? ⟨(w.heap.size + 1), 1, none⟩ = some (.int .i64 0) := by unfold World.cell?; rw [hE2.out]; rfl
 have zf : ∀ i, wv.frozen? ⟨(w.heap.size + 1), i, none⟩ = false := fun i => by unfold World.frozen?; rw [hE2.out]; simp
 replace hS0 : (fun w' => w'.heap[w1.heap.size + 1]? = some (.cells #[.int .i64 0, .int .i64 0] 28)) wv.drew := hS0
 have x0 := fun (w' : World) (h : (fun w' => w'.heap[w1.heap.size + 1]? = some (.cells #[.int .i64 0, .int .i64 0] 28)) w') => (show w'.cell? ⟨w1.heap.size + 1, 0, none⟩ = some (.int .i64 0) from (by unfold World.cell?; rw [h]; rfl))
 have x1 := fun (w' : World) (h : (fun w' => w'.heap[w1.heap.size + 1]? = some (.cells #[.int .i64 0, .int .i64 0] 28)) w') => (show w'.cell? ⟨w1.heap.size + 1, 1, none⟩ = some (.int .i64 0) from (by unfold World.cell?; rw [h]; rfl))
 refine wp_region_held_drew (S := (fun w' => w'.heap[w1.heap.size + 1]? = some (.cells #[.int .i64 0, .int .i64 0] 28))) (by kernel_rfl) (by first | trivial | ((try dsimp only); go_keep)) (fun hHeld => ?_)
 refine tk 0 rfl ?_
 refine tk 1 rfl ?_
 refine tk 2 rfl ?_
 refine rd1 3 rfl (fun K hK => ?_)
 go_simp
 have hst := ((Ch.setCell (O := fun j => j = (w.heap.size + 1)) wv ⟨(w.heap.size + 1), 0, none⟩ (.int .i64 0) rfl).set (a := ⟨(w.heap.size + 1), 1, none⟩) rfl (.int .i64 0)).dr
 have hS5 : (fun w' => w'.heap[w1.heap.size + 1]? = some (.cells #[.int .i64 0, .int .i64 0] 28)) ((wv.setCell ⟨(w.heap.size + 1), 0, none⟩ (.int .i64 0)).setCell ⟨(w.heap.size + 1), 1, none⟩ (.int .i64 0)).drew := (hst.same _ (Array.getElem?_eq_some_iff.1 hS0).1 (fun e => by have := hzz.out; omega)).trans hS0
 clear hHeld
 refine gn hK (fun hHeld => ?_)
 clear hK K
 refine wpAnyH_done (by kernel_rfl) ?_ _
 clear hHeld
 try simp only [Act.put, List.getElem_toArray, List.getElem_cons_zero, List.getElem_cons_succ, List.setIfInBounds_toArray, List.set_cons_zero, List.set_cons_succ]
 have hy2 := blk_set (i := 1) (v := .int .i64 0) (blk_set (i := 0) (v := .int .i64 0) hE2.out)
 clear hS5 z0 z1 zf
 replace hy2 : (World.drew ((wv.setCell ⟨(w.heap.size + 1), 0, none⟩ (.int .i64 0)).setCell ⟨(w.heap.size + 1), 1, none⟩ (.int .i64 0))).heap[(w.heap.size + 1)]? = some (.cells #[.int .i64 0, .int .i64 0] 28) := hy2.trans (by simp)
 generalize World.drew (World.setCell (World.setCell wv _ _) _ _) = wE at *
 have z0 : wE.cell? ⟨(w.heap.size + 1), 0, none⟩ = some (.int .i64 0) := by unfold World.cell?; rw [hy2]; rfl
 have z1 : wE.cell? ⟨(w.heap.size + 1), 1, none⟩ = some (.int .i64 0) := by unfold World.cell?; rw [hy2]; rfl
 replace hy2 := hid hy2
 replace hst := hid hst
 obtain ⟨oa, ocap, hov, -, -⟩ := row_slice hrow.out
 have hcE := hid (hcv.out.old hst.out (fun z e => by rw [e]; exact Nat.le_succ _))
 have hrE := hid (ownsRow_keep (w' := wE) hrow.out (fun z hz => hst.out.same z (ownsRow_lt hrow.out hz) (fun e => absurd (hro.out z hz) (by rw [e]; exact Nat.not_le.2 (Nat.lt_succ_self _)))))
 subst hov
 go_wp2_with fail
 refine bodyPost_ret (v := .tuple #[.slice oa ps.length ocap, .agg #[.int .i64 0, .int .i64 0]]) (by simp [results, Try.results8, go_sem, z0, z1]) rfl ?_
 exact ⟨_, rfl, ps, hps, hrE.out, hcE.out, fun z hz => Nat.le_trans (Nat.le_succ_of_le (Nat.le_succ _)) (hro.out z hz)⟩
theorem Ch.ofBelow {w w' : World} (h : Below w.heap.size w w') : Ch (fun _ => False) w w' := ⟨h.size, fun k hk _ => h.block k hk, h.os, h.output⟩
theorem Infer_any {f k : Nat} {w : World} {s : ByteArray} {T : Sy.Tr} {L : List (Un.Nm × Ty.P)} (htr : treeOf s = (T, (0, 0))) (hkind : T.kind = 0) {N : Nat} (hN : T.num = (N : Int)) (hN2 : N < T.kids.length) (hlen : T.kids.length + 2 * (k + 1) < 1000000) (hp : checkE f k T = some L) (hsh : ∀ x ∈ L, shB x.2 = true ∧ x.2.parts ≤ 1000000) :
  Calls Try.prog 6 #[.string s] w fun en w' => ∃ ov, en = .returned (.tuple #[ov, .agg #[.int .i64 0, .int .i64 0]]) ∧ ∃ ps, ps.map (·.1) = L.map (·.1) ∧ w'.ownsRow 0 32 2 ov ps.length (tpsC ps) ∧ Ch (fun _ => False) w w' := by
 have hq0 := hid (al_ch w (.cells #[.int .i64 0, .int .i64 0] 28))
 have hz0 : Hid ((w.alloc (.cells #[.int .i64 0, .int .i64 0] 28)).heap.size = w.heap.size + 1) := hid (by simp)
 have hb1 := hid (World.alloc_heap_new w (.cells #[.int .i64 0, .int .i64 0] 28))
 have HC := rparse_any s (w.alloc (.cells #[.int .i64 0, .int .i64 0] 28))
 rw [htr] at HC
 have hCk := hid (fun (W : World) (F : Nat → Prop) (v : Value) (h1 : Kids W F v T.kids) (h2 : ∀ q, F q → q < W.heap.size) => Check_any h1 h2 hkind hN hN2 hlen hp hsh)
 clear htr hkind hN hN2 hlen hp hsh
 go_enter Try.func6, Try.ntmps6
 go_upto_region 1 with (fail)
 change Code.wp _ _ _ _ (w.alloc (.cells #[.int .i64 0, .int .i64 0] 28))
 generalize w.alloc (.cells #[.int .i64 0, .int .i64 0] 28) = w0 at *
 go_upto_region 2 with (go_at_call 7; refine HC.mono ?_; clear HC; rintro en w1 ⟨a, l, c, rfl, hK, hB⟩)
 have hc1 := hid (Ch.ofBelow hB.out)
 have hqv := hid ((al_ch w1 (nodeB T (.slice a l c))).al (.cells #[.int .i64 0, .int .i64 0] 28))
 have hn0 := blk_alloc (x := .cells #[.int .i64 0, .int .i64 0] 28) (World.alloc_heap_new w1 (nodeB T (.slice a l c)))
 have hn1 := World.alloc_heap_new (w1.alloc (nodeB T (.slice a l c))) (.cells #[.int .i64 0, .int .i64 0] 28)
 simp only [al_size] at hn1
 change Code.wp _ _ _ _ ((w1.alloc (nodeB T (.slice a l c))).alloc (.cells #[.int .i64 0, .int .i64 0] 28))
 generalize (w1.alloc (nodeB T (.slice a l c))).alloc (.cells #[.int .i64 0, .int .i64 0] 28) = wv at *
 have hzz : Hid (w.heap.size < w1.heap.size) := hid (by have := hz0.out; have := hc1.out.size; omega)
 have hE2 := hid ((hqv.out.same _ hzz.out (fun h => h)).trans ((hc1.out.same _ (by rw [hz0.out]; exact Nat.lt_succ_self _) (fun h => h)).trans hb1.out))
 obtain ⟨p0, p1, p2, p3, p4⟩ := node_cells hn0
 have z0 : wv.cell? ⟨w1.heap.size + 1, 0, none⟩ = some (.int .i64 0) := by unfold World.cell?; rw [hn1]; rfl
 have hK2 := (hK.out.carry (w' := w1) (F' := fun z => z < w1.heap.size) (fun _ _ _ => rfl) (fun z _ hz => hz)).quiet hqv.out
 have HD := hCk.out wv (fun z => z < w1.heap.size) _ hK2 (fun z hz => Nat.lt_of_lt_of_le hz hqv.out.size)
 have hcv := hid ((hq0.out.trans hc1.out (fun _ h => .inl h)).trans hqv.out (fun _ h => .inl h))
 have hzv : Hid (w.heap.size < wv.heap.size) := hid (Nat.lt_of_lt_of_le hzz.out hqv.out.size)
 clear hK hB hK2 hn0 hn1 hCk
 have yf : ∀ (W : World), Ch (fun _ => False) wv W → (W.cell? ⟨w.heap.size, 0, none⟩ = some (.int .i64 0) ∧ W.cell? ⟨w.heap.size, 1, none⟩ = some (.int .i64 0)) ∧ ∀ i, W.frozen? ⟨w.heap.size, i, none⟩ = false := fun W h => by
  have hb := (h.same _ hzv.out (fun h => h)).trans hE2.out
  exact ⟨⟨by unfold World.cell?; rw [hb]; rfl, by unfold World.cell?; rw [hb]; rfl⟩, fun i => by unfold World.frozen?; rw [hb]; simp⟩
 replace yf := hid yf
 go_wp2_with (go_at_call 8; refine HD.mono ?_; clear HD; rintro en w2 ⟨ov, rfl, ps, hps, hrow, hc2, hro⟩; obtain ⟨⟨y0, y1⟩, yz⟩ := yf.out w2 hc2)
 have hy2 := blk_set (i := 1) (v := .int .i64 0) (blk_set (i := 0) (v := .int .i64 0) ((hc2.same _ hzv.out (fun h => h)).trans hE2.out))
 have hst := (Ch.setCell (O := fun j => j = w.heap.size) w2 ⟨w.heap.size, 0, none⟩ (.int .i64 0) rfl).set (a := ⟨w.heap.size, 1, none⟩) rfl (.int .i64 0)
 replace hy2 : ((w2.setCell ⟨w.heap.size, 0, none⟩ (.int .i64 0)).setCell ⟨w.heap.size, 1, none⟩ (.int .i64 0)).heap[w.heap.size]? = some (.cells #[.int .i64 0, .int .i64 0] 28) := hy2.trans (by simp)
 generalize World.setCell (World.setCell w2 _ _) _ _ = wE at *
 have z0 : wE.cell? ⟨w.heap.size, 0, none⟩ = some (.int .i64 0) := by unfold World.cell?; rw [hy2]; rfl
 have z1 : wE.cell? ⟨w.heap.size, 1, none⟩ = some (.int .i64 0) := by unfold World.cell?; rw [hy2]; rfl
 refine bodyPost_ret (v := .tuple #[ov, .agg #[.int .i64 0, .int .i64 0]]) (by simp [results, Try.results6, go_sem, z0, z1]) rfl ?_
 exact ⟨_, rfl, ps, hps, ownsRow_keep hrow (fun z hz => hst.same z (ownsRow_lt hrow hz) (fun e => absurd (hro z hz) (by rw [e]; exact Nat.not_le.2 hzv.out))), ((hcv.out.trans hc2 (fun _ h => .inl h))).old hst (fun z e => by rw [e]; exact Nat.le_refl _)⟩
end Go.Proofs.Ytejciampbnfbhaa

namespace Go.Proofs.Ytejciampbnfbhaa
open Go.RowKit Ie
abbrev nMain : List UInt8 := [109, 97, 105, 110]
def chk (a b : List UInt8) : List (List UInt8) → Nat → Option Nat
 | [], m => some m
 | n :: r, m => if n = a then chk a b r (m + 1) else if n = b then chk a b r (m + 1) else if n = nMain then chk a b r m else match n with
  | 112 :: 95 :: _ => chk a b r m
  | _ => none
theorem chk_cons {a b n : List UInt8} {r : List (List UInt8)} {m q : Nat} (h : chk a b (n :: r) m = some q) :
  (n = a ∧ chk a b r (m + 1) = some q) ∨ (n ≠ a ∧ n = b ∧ chk a b r (m + 1) = some q) ∨ (n ≠ a ∧ n ≠ b ∧ n = nMain ∧ chk a b r m = some q) ∨ (n ≠ a ∧ n ≠ b ∧ n ≠ nMain ∧ (∃ n2, n = 112 :: 95 :: n2) ∧ chk a b r m = some q) := by
 unfold chk at h
 split at h
 ·exact .inl ⟨‹_›, h⟩
 ·split at h
  ·exact .inr (.inl ⟨‹_›, ‹_›, h⟩)
  ·split at h
   ·exact .inr (.inr (.inl ⟨‹_›, ‹_›, ‹_›, h⟩))
   ·split at h
    ·exact .inr (.inr (.inr ⟨‹_›, ‹_›, ‹_›, ⟨_, rfl⟩, h⟩))
    ·cases h
theorem pz (n2 : List UInt8) : ((⟨(112 :: 95 :: n2).toArray⟩ : ByteArray).extract 0 2).toList = [112, 95] := by
 rw [ByteArray.toList_eq]
 simp [ByteArray.data_extract]
abbrev mainIs : ByteArray := ⟨#[32, 109, 97, 105, 110, 32, 61, 32, 49]⟩
theorem Begins_any {w : World} {s : ByteArray} {a b : List UInt8} {names : List (List UInt8)} {q : Nat} (hs : s.size ≤ 1500) (hl : names.length < 1000000) (hI : ∀ w : World, Calls Try.prog 6 #[.string (s ++ mainIs)] w fun en w' => ∃ ov, en = .returned (.tuple #[ov, .agg #[.int .i64 0, .int .i64 0]]) ∧ ∃ ps : List TP, ps.map (·.1) = names ∧ w'.ownsRow 0 32 2 ov ps.length (tpsC ps) ∧ Ch (fun _ => False) w w') (hc : chk a b names 0 = some q) (hq : q = 2 ∨ (q = 1 ∧ a = b)) :
  Calls Try.prog 5 #[.string s, str a, str b] w fun en w' => en = .returned (.bool true) ∧ Ch (fun _ => False) w w' := by
 have HC := hI w
 have hm9 : mainIs.size = 9 := rfl
 have ks := fun (W : World) => run_string_add_sum (P := Try.prog) W s mainIs (by rw [hm9]; omega)
 have hs1 : ¬ (1500 : Int) < (s.size : Int) := by omega
 clear hI hm9
 replace hc := hid hc
 replace hs := hid hs
 go_enter Try.func5, Try.ntmps5
 go_upto_region 2 with (go_at_call 6; refine HC.mono ?_; clear HC; rintro en w1 ⟨ov, rfl, ps, hps, hrow, hc1⟩)
 have hb := World.alloc_heap_new w1 (.cells #[.int .i64 0, .int .i64 0] 28)
 have hqa := al_ch w1 (.cells #[.int .i64 0, .int .i64 0] 28)
 have z0 : (w1.alloc (.cells #[.int .i64 0, .int .i64 0] 28)).cell? ⟨w1.heap.size, 0, none⟩ = some (.int .i64 0) := by unfold World.cell?; rw [hb]; rfl
 replace hrow := hid (ownsRow_keep (w' := w1.alloc (.cells #[.int .i64 0, .int .i64 0] 28)) hrow (fun z hz => hqa.same z (ownsRow_lt hrow hz) (fun h => h)))
 have hcw := hid (hc1.trans hqa (fun _ h => .inl h))
 clear hb hqa hc1 ks
 change Code.wp _ _ _ _ (w1.alloc (.cells #[.int .i64 0, .int .i64 0] 28))
 generalize w1.alloc (.cells #[.int .i64 0, .int .i64 0] 28) = w2 at *
 obtain ⟨oa, ocap, rfl, ho, -⟩ := row_slice hrow.out
 have hpl : ps.length < 1000000 := by rw [← hps, List.length_map] at hl; exact hl
 go_wp2_with fail
 go_loopg [9, 10] (ps.length + 1) (fun qq v9 v10 wr => ∃ i m : Nat, v9 = .int .i64 (m : Nat) ∧ v10 = .int .i64 (i : Nat) ∧ i ≤ ps.length ∧ m ≤ i ∧ qq = ps.length + 1 - i ∧ Hid (Ch (fun _ => False) w2 wr) ∧ Hid (chk a b ((ps.map (·.1)).drop i) m = some q))
 case atStart => exact ⟨0, 0, rfl, rfl, Nat.zero_le _, Nat.le_refl _, rfl, hid (Ch.refl _ _), hid (by rw [List.drop_zero, hps]; exact hc.out)⟩
 case round =>
  obtain ⟨i, m, rfl, rfl, hi, hm, rfl, hcr, hd⟩ := hrel
  rename World => wr
  by_cases hlt : i < ps.length
  ·rcases ho with h0 | ⟨g, rfl⟩
   ·omega
   obtain ⟨⟨n, sv⟩, hp⟩ : ∃ x, ps[i]? = some x := ⟨_, List.getElem?_eq_getElem hlt⟩; have hd2 := hd.out; have hpn : (ps.map (·.1))[i]? = some n := by rw [List.getElem?_map, hp]; rfl
   rw [List.drop_eq_getElem_cons (List.getElem?_eq_some_iff.1 hpn).1, (List.getElem?_eq_some_iff.1 hpn).2] at hd2; have n0 := cell_keeps hcr.out (row_cell hrow.out _ _ (flat_at (f := tpC) (n := 2) (fun _ => rfl) hp (j := 0) (by omega) rfl)); simp only [Nat.add_zero] at n0; have k0 : (0 : Int) ≤ (i : Int) := by omega
   have k1 : (i : Int) < (ps.length : Int) := by omega
   have hwi : IntKind.i64.wrap ((i : Int) + 1) = (i : Int) + 1 := IntWalk.i64_in _ (by omega); have hwm : IntKind.i64.wrap ((m : Int) + 1) = (m : Int) + 1 := IntWalk.i64_in _ (by omega); clear hpn hps; replace hp := hid hp; replace hd := hid hd.out
   rcases chk_cons hd2 with ⟨rfl, hnx⟩ | ⟨na, rfl, hnx⟩ | ⟨na, nb, rfl, hnx⟩ | ⟨na, nb, nm, ⟨n2, rfl⟩, hnx⟩
   ·clear hd2
    replace hnx := hid hnx
    go_wp2_with fail
    go_roundg (ps.length + 1 - (i + 1))
    case measure => omega
    case rel => exact ⟨i + 1, m + 1, by simp, by simp, by omega, by omega, rfl, hcr, hnx⟩
   ·clear hd2
    replace hnx := hid hnx; have e1 : (n == a) = false := beq_eq_false_iff_ne.2 na
    go_wp2_with fail
    go_roundg (ps.length + 1 - (i + 1))
    case measure => omega
    case rel => exact ⟨i + 1, m + 1, by simp, by simp, by omega, by omega, rfl, hcr, hnx⟩
   ·clear hd2
    replace hnx := hid hnx; have e1 : (nMain == a) = false := beq_eq_false_iff_ne.2 na; have e2 : (nMain == b) = false := beq_eq_false_iff_ne.2 nb
    go_wp2_with fail
    go_roundg (ps.length + 1 - (i + 1))
    case measure => omega
    case rel => exact ⟨i + 1, m, by simp, by simp, by omega, by omega, rfl, hcr, hnx⟩
   ·clear hd2
    replace hnx := hid hnx; have e1 : ((112 :: 95 :: n2) == a) = false := beq_eq_false_iff_ne.2 na; have e2 : ((112 :: 95 :: n2) == b) = false := beq_eq_false_iff_ne.2 nb; have e3 : ((112 :: 95 :: n2) == nMain) = false := beq_eq_false_iff_ne.2 nm; have e4 : ((112 :: 95 :: n2) != nMain) = true := bne_iff_ne.2 nm; have e5 := pz n2; have e6 : ¬ ((n2.length : Int) + 1 + 1 < 2) := by omega
    go_wp2_with fail
    go_roundg (ps.length + 1 - (i + 1))
    case measure => omega
    case rel => exact ⟨i + 1, m, by simp, by simp, by omega, by omega, rfl, hcr, hnx⟩
  ·obtain rfl : i = ps.length := by omega
   have k0 : ¬ (ps.length : Int) < (ps.length : Int) := by omega
   have hz := hd.out; rw [List.drop_of_length_le (by simp)] at hz; obtain rfl := Option.some.inj hz; clear hz hd
   rcases hq with rfl | ⟨rfl, rfl⟩
   ·go_wp2_with fail
    go_ret
    exact ⟨rfl, hcw.out.trans hcr.out (fun _ h => .inl h)⟩
   ·go_wp2_with fail
    go_ret
    exact ⟨rfl, hcw.out.trans hcr.out (fun _ h => .inl h)⟩
end Go.Proofs.Ytejciampbnfbhaa

namespace Go.Proofs.Ytejciampbnfbhaa
open Go.RowKit Ie
def treeL (t : List UInt8) : Sy.Tr × (Nat × Nat) := Sy.parseA ⟨(Lx.toks t.length 0 t).2, t.length⟩ 4000 ⟨Sy.zTk, (Lx.toks t.length 0 t).1, (0, 0)⟩
def good2 (a b : List UInt8) : Option (List (Un.Nm × Ty.P)) → Bool
 | some L => decide (L.length < 1000000) && L.all (fun x => shB x.2 && decide (x.2.parts ≤ 1000000)) && (match chk a b (L.map (·.1)) 0 with
  | some q => q == 2 || (q == 1 && a == b)
  | none => false)
 | none => false
def good (t : List UInt8) (a b : List UInt8) : Bool := match treeL t with
 | (T, f) => f.1 == 0 && f.2 == 0 && T.kind == 0 && decide (0 ≤ T.num) && decide (T.num.toNat < T.kids.length) && decide (T.kids.length < 1000) && good2 a b (checkE 300 300 T)
theorem tree_list {t : List UInt8} (h : t.length ≤ 3000) : treeOf ⟨t.toArray⟩ = treeL t := by
 have hz : (⟨t.toArray⟩ : ByteArray).size = t.length := rfl
 have hd : (⟨t.toArray⟩ : ByteArray).data.toList = t := rfl
 unfold treeOf treeL envOf startOf
 rw [hz, hd, if_neg (by omega)]
theorem good_begins {t : List UInt8} {s : ByteArray} {a b : List UInt8} (hg : good t a b = true) (hs : s.size ≤ 1500) (ht : s ++ mainIs = ⟨t.toArray⟩) (w : World) :
  Calls Try.prog 5 #[.string s, str a, str b] w fun en w' => en = .returned (.bool true) ∧ Ch (fun _ => False) w w' := by
 have hz : t.length ≤ 3000 := by
  have h1 := congrArg ByteArray.size ht
  rw [ByteArray.size_append] at h1
  have h2 : mainIs.size = 9 := rfl
  have h3 : (⟨t.toArray⟩ : ByteArray).size = t.length := rfl
  omega
 unfold good at hg
 have htr := tree_list hz
 generalize treeL t = R at hg htr
 obtain ⟨T, p1, p2⟩ := R
 dsimp only at hg
 simp only [Bool.and_eq_true, beq_iff_eq, decide_eq_true_eq] at hg
 obtain ⟨⟨⟨⟨⟨⟨rfl, rfl⟩, h3⟩, h4⟩, h5⟩, h6⟩, h7⟩ := hg
 generalize hL : checkE 300 300 T = r at h7
 cases r with
 | none => cases h7
 | some L =>
  unfold good2 at h7
  obtain ⟨h8, h9⟩ := Bool.and_eq_true_iff.1 h7
  obtain ⟨h8l, h8⟩ := Bool.and_eq_true_iff.1 h8
  generalize hq : chk a b (L.map (·.1)) 0 = r2 at h9
  cases r2 with
  | none => cases h9
  | some q =>
   have hsh : ∀ x ∈ L, shB x.2 = true ∧ x.2.parts ≤ 1000000 := fun x hx => by
    have := List.all_eq_true.1 h8 x hx
    simpa using this
   obtain ⟨N, hN⟩ := Int.eq_ofNat_of_zero_le h4; have hNl : N < T.kids.length := by rw [hN] at h5; simpa using h5
   refine Begins_any hs (by rw [List.length_map]; simpa using h8l) (fun w => ht ▸ Infer_any htr h3 hN hNl (by omega) hL hsh) hq ?_
   simpa using h9
def t_state : List UInt8 := [111, 112, 32, 111, 110, 99, 101, 32, 103, 101, 116, 32, 58, 32, 117, 110, 105, 116, 32, 61, 62, 32, 105, 110, 116, 10, 111, 112, 32, 111, 110, 99, 101, 32, 112, 117, 116, 32, 58, 32, 105, 110, 116, 32, 61, 62, 32, 117, 110, 105, 116, 10, 100, 101, 102, 32, 115, 116, 97, 116, 101, 32, 110, 32, 102, 32, 61, 32, 40, 104, 97, 110, 100, 108, 101, 32, 102, 32, 40, 41, 32, 119, 105, 116, 104, 32, 123, 10, 32, 32, 114, 101, 116, 117, 114, 110, 32, 120, 32, 61, 62, 32, 102, 110, 32, 115, 32, 61, 62, 32, 40, 120, 44, 32, 115, 41, 10, 124, 32, 103, 101, 116, 32, 117, 32, 107, 32, 61, 62, 32, 102, 110, 32, 115, 32, 61, 62, 32, 107, 32, 115, 32, 115, 10, 124, 32, 112, 117, 116, 32, 109, 32, 107, 32, 61, 62, 32, 102, 110, 32, 115, 32, 61, 62, 32, 107, 32, 40, 41, 32, 109, 10, 125, 41, 32, 110, 10, 32, 109, 97, 105, 110, 32, 61, 32, 49]
theorem good_state : good t_state [115, 116, 97, 116, 101] [115, 116, 97, 116, 101] = true := by decide +kernel
def t_choose : List UInt8 := [111, 112, 32, 109, 97, 110, 121, 32, 102, 108, 105, 112, 32, 58, 32, 117, 110, 105, 116, 32, 61, 62, 32, 98, 111, 111, 108, 10, 100, 101, 102, 32, 114, 101, 99, 32, 112, 95, 114, 101, 118, 101, 114, 115, 101, 32, 108, 32, 114, 32, 61, 32, 99, 97, 115, 101, 32, 108, 32, 111, 102, 32, 91, 93, 32, 61, 62, 32, 114, 32, 124, 32, 120, 32, 58, 58, 32, 109, 32, 61, 62, 32, 112, 95, 114, 101, 118, 101, 114, 115, 101, 32, 109, 32, 40, 120, 32, 58, 58, 32, 114, 41, 32, 101, 110, 100, 10, 100, 101, 102, 32, 114, 101, 99, 32, 112, 95, 97, 108, 108, 32, 102, 32, 108, 97, 116, 101, 114, 32, 108, 32, 61, 32, 115, 104, 97, 108, 108, 111, 119, 32, 102, 32, 40, 41, 32, 119, 105, 116, 104, 32, 123, 10, 32, 32, 114, 101, 116, 117, 114, 110, 32, 120, 32, 61, 62, 32, 99, 97, 115, 101, 32, 108, 97, 116, 101, 114, 32, 111, 102, 10, 32, 32, 32, 32, 91, 93, 32, 61, 62, 32, 112, 95, 114, 101, 118, 101, 114, 115, 101, 32, 40, 120, 32, 58, 58, 32, 108, 41, 32, 91, 93, 10, 32, 32, 124, 32, 107, 32, 58, 58, 32, 114, 32, 61, 62, 32, 112, 95, 97, 108, 108, 32, 40, 102, 110, 32, 117, 32, 61, 62, 32, 107, 32, 102, 97, 108, 115, 101, 41, 32, 114, 32, 40, 120, 32, 58, 58, 32, 108, 41, 32, 101, 110, 100, 10, 124, 32, 102, 108, 105, 112, 32, 117, 32, 107, 32, 61, 62, 32, 112, 95, 97, 108, 108, 32, 40, 102, 110, 32, 118, 32, 61, 62, 32, 107, 32, 116, 114, 117, 101, 41, 32, 40, 107, 32, 58, 58, 32, 108, 97, 116, 101, 114, 41, 32, 108, 10, 125, 10, 100, 101, 102, 32, 97, 108, 108, 32, 102, 32, 61, 32, 112, 95, 97, 108, 108, 32, 102, 32, 91, 93, 32, 91, 93, 10, 100, 101, 102, 32, 114, 101, 99, 32, 112, 95, 102, 105, 114, 115, 116, 32, 102, 32, 108, 97, 116, 101, 114, 32, 108, 32, 61, 32, 115, 104, 97, 108, 108, 111, 119, 32, 102, 32, 40, 41, 32, 119, 105, 116, 104, 32, 123, 10, 32, 32, 114, 101, 116, 117, 114, 110, 32, 120, 32, 61, 62, 32, 105, 102, 32, 120, 32, 116, 104, 101, 110, 32, 112, 95, 114, 101, 118, 101, 114, 115, 101, 32, 108, 32, 91, 93, 32, 101, 108, 115, 101, 32, 99, 97, 115, 101, 32, 108, 97, 116, 101, 114, 32, 111, 102, 10, 32, 32, 32, 32, 91, 93, 32, 61, 62, 32, 91, 93, 10, 32, 32, 124, 32, 112, 32, 58, 58, 32, 114, 32, 61, 62, 32, 112, 95, 102, 105, 114, 115, 116, 32, 40, 102, 110, 32, 117, 32, 61, 62, 32, 40, 102, 115, 116, 32, 112, 41, 32, 102, 97, 108, 115, 101, 41, 32, 114, 32, 40, 102, 97, 108, 115, 101, 32, 58, 58, 32, 115, 110, 100, 32, 112, 41, 32, 101, 110, 100, 10, 124, 32, 102, 108, 105, 112, 32, 117, 32, 107, 32, 61, 62, 32, 112, 95, 102, 105, 114, 115, 116, 32, 40, 102, 110, 32, 118, 32, 61, 62, 32, 107, 32, 116, 114, 117, 101, 41, 32, 40, 40, 107, 44, 32, 108, 41, 32, 58, 58, 32, 108, 97, 116, 101, 114, 41, 32, 40, 116, 114, 117, 101, 32, 58, 58, 32, 108, 41, 10, 125, 10, 100, 101, 102, 32, 102, 105, 114, 115, 116, 32, 102, 32, 61, 32, 112, 95, 102, 105, 114, 115, 116, 32, 102, 32, 91, 93, 32, 91, 93, 10, 32, 109, 97, 105, 110, 32, 61, 32, 49]
theorem good_choose : good t_choose [97, 108, 108] [102, 105, 114, 115, 116] = true := by decide +kernel
def t_gen : List UInt8 := [111, 112, 32, 109, 97, 110, 121, 32, 101, 109, 105, 116, 32, 58, 32, 105, 110, 116, 32, 61, 62, 32, 117, 110, 105, 116, 10, 100, 101, 102, 32, 114, 101, 99, 32, 112, 95, 114, 101, 118, 101, 114, 115, 101, 32, 108, 32, 114, 32, 61, 32, 99, 97, 115, 101, 32, 108, 32, 111, 102, 32, 91, 93, 32, 61, 62, 32, 114, 32, 124, 32, 120, 32, 58, 58, 32, 109, 32, 61, 62, 32, 112, 95, 114, 101, 118, 101, 114, 115, 101, 32, 109, 32, 40, 120, 32, 58, 58, 32, 114, 41, 32, 101, 110, 100, 10, 100, 101, 102, 32, 114, 101, 99, 32, 112, 95, 101, 109, 105, 116, 116, 101, 100, 32, 102, 32, 108, 32, 61, 32, 115, 104, 97, 108, 108, 111, 119, 32, 102, 32, 40, 41, 32, 119, 105, 116, 104, 32, 123, 10, 32, 32, 114, 101, 116, 117, 114, 110, 32, 120, 32, 61, 62, 32, 112, 95, 114, 101, 118, 101, 114, 115, 101, 32, 108, 32, 91, 93, 10, 124, 32, 101, 109, 105, 116, 32, 110, 32, 107, 32, 61, 62, 32, 112, 95, 101, 109, 105, 116, 116, 101, 100, 32, 107, 32, 40, 110, 32, 58, 58, 32, 108, 41, 10, 125, 10, 100, 101, 102, 32, 101, 109, 105, 116, 116, 101, 100, 32, 102, 32, 61, 32, 112, 95, 101, 109, 105, 116, 116, 101, 100, 32, 102, 32, 91, 93, 10, 100, 101, 102, 32, 114, 101, 99, 32, 112, 95, 116, 97, 107, 101, 32, 105, 32, 102, 32, 108, 32, 61, 32, 105, 102, 32, 105, 32, 60, 32, 49, 32, 116, 104, 101, 110, 32, 112, 95, 114, 101, 118, 101, 114, 115, 101, 32, 108, 32, 91, 93, 32, 101, 108, 115, 101, 32, 115, 104, 97, 108, 108, 111, 119, 32, 102, 32, 40, 41, 32, 119, 105, 116, 104, 32, 123, 10, 32, 32, 114, 101, 116, 117, 114, 110, 32, 120, 32, 61, 62, 32, 112, 95, 114, 101, 118, 101, 114, 115, 101, 32, 108, 32, 91, 93, 10, 124, 32, 101, 109, 105, 116, 32, 110, 32, 107, 32, 61, 62, 32, 112, 95, 116, 97, 107, 101, 32, 40, 105, 32, 45, 32, 49, 41, 32, 107, 32, 40, 110, 32, 58, 58, 32, 108, 41, 10, 125, 10, 100, 101, 102, 32, 116, 97, 107, 101, 32, 105, 32, 102, 32, 61, 32, 112, 95, 116, 97, 107, 101, 32, 105, 32, 102, 32, 91, 93, 10, 32, 109, 97, 105, 110, 32, 61, 32, 49]
theorem good_gen : good t_gen [101, 109, 105, 116, 116, 101, 100] [116, 97, 107, 101] = true := by decide +kernel
def t_sched : List UInt8 := [111, 112, 32, 109, 97, 110, 121, 32, 102, 111, 114, 107, 32, 58, 32, 40, 117, 110, 105, 116, 32, 45, 123, 102, 111, 114, 107, 44, 32, 115, 97, 121, 44, 32, 121, 105, 101, 108, 100, 125, 45, 62, 32, 117, 110, 105, 116, 41, 32, 61, 62, 32, 117, 110, 105, 116, 10, 111, 112, 32, 109, 97, 110, 121, 32, 121, 105, 101, 108, 100, 32, 58, 32, 117, 110, 105, 116, 32, 61, 62, 32, 117, 110, 105, 116, 10, 111, 112, 32, 109, 97, 110, 121, 32, 115, 97, 121, 32, 58, 32, 105, 110, 116, 32, 61, 62, 32, 117, 110, 105, 116, 10, 100, 101, 102, 32, 114, 101, 99, 32, 112, 95, 114, 101, 118, 101, 114, 115, 101, 32, 108, 32, 114, 32, 61, 32, 99, 97, 115, 101, 32, 108, 32, 111, 102, 32, 91, 93, 32, 61, 62, 32, 114, 32, 124, 32, 120, 32, 58, 58, 32, 109, 32, 61, 62, 32, 112, 95, 114, 101, 118, 101, 114, 115, 101, 32, 109, 32, 40, 120, 32, 58, 58, 32, 114, 41, 32, 101, 110, 100, 10, 100, 101, 102, 32, 114, 101, 99, 32, 112, 95, 114, 117, 110, 32, 113, 117, 101, 117, 101, 32, 98, 101, 104, 105, 110, 100, 32, 108, 32, 61, 32, 99, 97, 115, 101, 32, 113, 117, 101, 117, 101, 32, 111, 102, 10, 32, 32, 91, 93, 32, 61, 62, 32, 99, 97, 115, 101, 32, 98, 101, 104, 105, 110, 100, 32, 111, 102, 32, 91, 93, 32, 61, 62, 32, 112, 95, 114, 101, 118, 101, 114, 115, 101, 32, 108, 32, 91, 93, 32, 124, 32, 102, 32, 58, 58, 32, 114, 32, 61, 62, 32, 112, 95, 114, 117, 110, 32, 40, 112, 95, 114, 101, 118, 101, 114, 115, 101, 32, 98, 101, 104, 105, 110, 100, 32, 91, 93, 41, 32, 91, 93, 32, 108, 32, 101, 110, 100, 10, 124, 32, 102, 32, 58, 58, 32, 114, 32, 61, 62, 32, 115, 104, 97, 108, 108, 111, 119, 32, 102, 32, 40, 41, 32, 119, 105, 116, 104, 32, 123, 10, 32, 32, 32, 32, 114, 101, 116, 117, 114, 110, 32, 120, 32, 61, 62, 32, 112, 95, 114, 117, 110, 32, 114, 32, 98, 101, 104, 105, 110, 100, 32, 108, 10, 32, 32, 124, 32, 102, 111, 114, 107, 32, 103, 32, 107, 32, 61, 62, 32, 112, 95, 114, 117, 110, 32, 40, 107, 32, 58, 58, 32, 114, 41, 32, 40, 103, 32, 58, 58, 32, 98, 101, 104, 105, 110, 100, 41, 32, 108, 10, 32, 32, 124, 32, 121, 105, 101, 108, 100, 32, 117, 32, 107, 32, 61, 62, 32, 112, 95, 114, 117, 110, 32, 114, 32, 40, 107, 32, 58, 58, 32, 98, 101, 104, 105, 110, 100, 41, 32, 108, 10, 32, 32, 124, 32, 115, 97, 121, 32, 110, 32, 107, 32, 61, 62, 32, 112, 95, 114, 117, 110, 32, 40, 107, 32, 58, 58, 32, 114, 41, 32, 98, 101, 104, 105, 110, 100, 32, 40, 110, 32, 58, 58, 32, 108, 41, 10, 32, 32, 125, 32, 101, 110, 100, 10, 100, 101, 102, 32, 114, 117, 110, 32, 102, 32, 61, 32, 112, 95, 114, 117, 110, 32, 91, 102, 93, 32, 91, 93, 32, 91, 93, 10, 32, 109, 97, 105, 110, 32, 61, 32, 49]
theorem good_sched : good t_sched [114, 117, 110] [114, 117, 110] = true := by decide +kernel
def t_catch : List UInt8 := [111, 112, 32, 109, 97, 110, 121, 32, 102, 97, 105, 108, 32, 58, 32, 105, 110, 116, 32, 61, 62, 32, 105, 110, 116, 10, 100, 101, 102, 32, 99, 97, 116, 99, 104, 32, 102, 32, 61, 32, 104, 97, 110, 100, 108, 101, 32, 102, 32, 40, 41, 32, 119, 105, 116, 104, 32, 123, 32, 114, 101, 116, 117, 114, 110, 32, 120, 32, 61, 62, 32, 91, 120, 32, 43, 32, 48, 93, 32, 124, 32, 102, 97, 105, 108, 32, 110, 32, 107, 32, 61, 62, 32, 91, 93, 32, 125, 10, 100, 101, 102, 32, 114, 101, 116, 114, 121, 32, 110, 32, 102, 32, 61, 32, 40, 104, 97, 110, 100, 108, 101, 32, 102, 32, 40, 41, 32, 119, 105, 116, 104, 32, 123, 10, 32, 32, 114, 101, 116, 117, 114, 110, 32, 120, 32, 61, 62, 32, 102, 110, 32, 105, 32, 61, 62, 32, 120, 10, 124, 32, 102, 97, 105, 108, 32, 109, 32, 107, 32, 61, 62, 32, 102, 110, 32, 105, 32, 61, 62, 32, 105, 102, 32, 105, 32, 60, 32, 49, 32, 116, 104, 101, 110, 32, 109, 32, 101, 108, 115, 101, 32, 107, 32, 40, 109, 32, 43, 32, 49, 41, 32, 40, 105, 32, 45, 32, 49, 41, 10, 125, 41, 32, 110, 10, 32, 109, 97, 105, 110, 32, 61, 32, 49]
theorem good_catch : good t_catch [99, 97, 116, 99, 104] [114, 101, 116, 114, 121] = true := by decide +kernel
end Go.Proofs.Ytejciampbnfbhaa

namespace Go.Proofs.Ytejciampbnfbhaa
open Go.RowKit Ie
theorem cat_ba (a b : List UInt8) : (⟨a.toArray⟩ : ByteArray) ++ ⟨b.toArray⟩ = ⟨(a ++ b).toArray⟩ := by
 rw [ByteArray.ext_iff]
 simp [ByteArray.data_append]
theorem Text_state (w : World) : Calls Try.prog 4 #[.string ⟨#[115, 116, 97, 116, 101]⟩] w fun en w' => ∃ s : ByteArray, en = .returned (.string s) ∧ w' = w ∧ s ++ mainIs = ⟨t_state.toArray⟩ ∧ s.size ≤ 1500 := by
 go_enter Try.func4, Try.ntmps4
 go_wp2_with fail
 go_ret
 exact ⟨_, rfl, rfl, (cat_ba _ _).trans (congrArg (fun l : List UInt8 => (⟨l.toArray⟩ : ByteArray)) (by decide +kernel)), by decide +kernel⟩
theorem Text_choose (w : World) : Calls Try.prog 4 #[.string ⟨#[99, 104, 111, 111, 115, 101]⟩] w fun en w' => ∃ s : ByteArray, en = .returned (.string s) ∧ w' = w ∧ s ++ mainIs = ⟨t_choose.toArray⟩ ∧ s.size ≤ 1500 := by
 go_enter Try.func4, Try.ntmps4
 go_wp2_with fail
 go_ret
 exact ⟨_, rfl, rfl, (cat_ba _ _).trans (congrArg (fun l : List UInt8 => (⟨l.toArray⟩ : ByteArray)) (by decide +kernel)), by decide +kernel⟩
theorem Text_gen (w : World) : Calls Try.prog 4 #[.string ⟨#[103, 101, 110]⟩] w fun en w' => ∃ s : ByteArray, en = .returned (.string s) ∧ w' = w ∧ s ++ mainIs = ⟨t_gen.toArray⟩ ∧ s.size ≤ 1500 := by
 go_enter Try.func4, Try.ntmps4
 go_wp2_with fail
 go_ret
 exact ⟨_, rfl, rfl, (cat_ba _ _).trans (congrArg (fun l : List UInt8 => (⟨l.toArray⟩ : ByteArray)) (by decide +kernel)), by decide +kernel⟩
theorem Text_sched (w : World) : Calls Try.prog 4 #[.string ⟨#[115, 99, 104, 101, 100]⟩] w fun en w' => ∃ s : ByteArray, en = .returned (.string s) ∧ w' = w ∧ s ++ mainIs = ⟨t_sched.toArray⟩ ∧ s.size ≤ 1500 := by
 go_enter Try.func4, Try.ntmps4
 go_wp2_with fail
 go_ret
 exact ⟨_, rfl, rfl, (cat_ba _ _).trans (congrArg (fun l : List UInt8 => (⟨l.toArray⟩ : ByteArray)) (by decide +kernel)), by decide +kernel⟩
theorem Text_catch (w : World) : Calls Try.prog 4 #[.string ⟨#[99, 97, 116, 99, 104]⟩] w fun en w' => ∃ s : ByteArray, en = .returned (.string s) ∧ w' = w ∧ s ++ mainIs = ⟨t_catch.toArray⟩ ∧ s.size ≤ 1500 := by
 go_enter Try.func4, Try.ntmps4
 go_wp2_with fail
 go_ret
 exact ⟨_, rfl, rfl, (cat_ba _ _).trans (congrArg (fun l : List UInt8 => (⟨l.toArray⟩ : ByteArray)) (by decide +kernel)), by decide +kernel⟩
end Go.Proofs.Ytejciampbnfbhaa

namespace Go.Proofs.Ytejciampbnfbhaa
open Go.RowKit Ie
theorem Text_other {s : List UInt8} (w : World) (h0 : s ≠ [115, 116, 97, 116, 101]) (h1 : s ≠ [99, 104, 111, 111, 115, 101]) (h2 : s ≠ [103, 101, 110]) (h3 : s ≠ [115, 99, 104, 101, 100]) (h4 : s ≠ [99, 97, 116, 99, 104]) : Calls Try.prog 4 #[str s] w fun en w' => en = .returned (.string ⟨#[]⟩) ∧ w' = w := by
 have e0 : (s == ([115, 116, 97, 116, 101] : List UInt8)) = false := beq_eq_false_iff_ne.2 h0
 have e1 : (s == ([99, 104, 111, 111, 115, 101] : List UInt8)) = false := beq_eq_false_iff_ne.2 h1
 have e2 : (s == ([103, 101, 110] : List UInt8)) = false := beq_eq_false_iff_ne.2 h2
 have e3 : (s == ([115, 99, 104, 101, 100] : List UInt8)) = false := beq_eq_false_iff_ne.2 h3
 have e4 : (s == ([99, 97, 116, 99, 104] : List UInt8)) = false := beq_eq_false_iff_ne.2 h4
 go_enter Try.func4, Try.ntmps4
 go_wp2_with fail
 go_ret
 exact ⟨rfl, rfl⟩
theorem Others_state (w : World) : Calls Try.prog 3 #[str [115, 116, 97, 116, 101]] w fun en w' => en = .returned (.bool true) ∧ Ch (fun _ => False) w w' := by
 have HA := Text_state w
 have HB := Text_state w
 go_enter Try.func3, Try.ntmps3
 go_upto_region 2 with (go_at_call 4; refine HA.mono ?_; clear HA; rintro en w1 ⟨s1, rfl, h1, e1, z1⟩; obtain rfl := h1.symm)
 go_upto_region 3 with (first | (go_at_call 4; refine HB.mono ?_; clear HB; rintro en w2 ⟨s2, rfl, h2, e2, z2⟩; obtain rfl := h2.symm; have HC := good_begins good_state z2 e2 w) | (go_at_call 5; refine HC.mono ?_; clear HC; rintro en w3 ⟨rfl, hc3⟩))
 go_wp2_with fail
 go_ret
 exact ⟨rfl, hc3⟩
theorem Others_choose (w : World) : Calls Try.prog 3 #[str [99, 104, 111, 111, 115, 101]] w fun en w' => en = .returned (.bool true) ∧ Ch (fun _ => False) w w' := by
 have HA := Text_choose w
 have HB := Text_state w
 go_enter Try.func3, Try.ntmps3
 go_upto_region 2 with (go_at_call 4; refine HA.mono ?_; clear HA; rintro en w1 ⟨s1, rfl, h1, e1, z1⟩; obtain rfl := h1.symm)
 go_upto_region 3 with (first | (go_at_call 4; refine HB.mono ?_; clear HB; rintro en w2 ⟨s2, rfl, h2, e2, z2⟩; obtain rfl := h2.symm; have HC := good_begins good_state z2 e2 w) | (go_at_call 5; refine HC.mono ?_; clear HC; rintro en w3 ⟨rfl, hc3⟩))
 have HD := good_begins good_choose z1 e1 w3
 go_wp2_with (go_at_call 5; refine HD.mono ?_; clear HD; rintro en w4 ⟨rfl, hc4⟩)
 go_ret
 exact ⟨rfl, hc3.trans hc4 (fun _ h => .inl h)⟩
theorem Others_gen (w : World) : Calls Try.prog 3 #[str [103, 101, 110]] w fun en w' => en = .returned (.bool true) ∧ Ch (fun _ => False) w w' := by
 have HA := Text_gen w
 have HB := Text_state w
 go_enter Try.func3, Try.ntmps3
 go_upto_region 2 with (go_at_call 4; refine HA.mono ?_; clear HA; rintro en w1 ⟨s1, rfl, h1, e1, z1⟩; obtain rfl := h1.symm)
 go_upto_region 3 with (first | (go_at_call 4; refine HB.mono ?_; clear HB; rintro en w2 ⟨s2, rfl, h2, e2, z2⟩; obtain rfl := h2.symm; have HC := good_begins good_state z2 e2 w) | (go_at_call 5; refine HC.mono ?_; clear HC; rintro en w3 ⟨rfl, hc3⟩))
 have HD := good_begins good_gen z1 e1 w3
 go_wp2_with (go_at_call 5; refine HD.mono ?_; clear HD; rintro en w4 ⟨rfl, hc4⟩)
 go_ret
 exact ⟨rfl, hc3.trans hc4 (fun _ h => .inl h)⟩
theorem Others_sched (w : World) : Calls Try.prog 3 #[str [115, 99, 104, 101, 100]] w fun en w' => en = .returned (.bool true) ∧ Ch (fun _ => False) w w' := by
 have HA := Text_sched w
 have HB := Text_state w
 go_enter Try.func3, Try.ntmps3
 go_upto_region 2 with (go_at_call 4; refine HA.mono ?_; clear HA; rintro en w1 ⟨s1, rfl, h1, e1, z1⟩; obtain rfl := h1.symm)
 go_upto_region 3 with (first | (go_at_call 4; refine HB.mono ?_; clear HB; rintro en w2 ⟨s2, rfl, h2, e2, z2⟩; obtain rfl := h2.symm; have HC := good_begins good_state z2 e2 w) | (go_at_call 5; refine HC.mono ?_; clear HC; rintro en w3 ⟨rfl, hc3⟩))
 have HD := good_begins good_sched z1 e1 w3
 go_wp2_with (go_at_call 5; refine HD.mono ?_; clear HD; rintro en w4 ⟨rfl, hc4⟩)
 go_ret
 exact ⟨rfl, hc3.trans hc4 (fun _ h => .inl h)⟩
theorem Others_catch (w : World) : Calls Try.prog 3 #[str [99, 97, 116, 99, 104]] w fun en w' => en = .returned (.bool true) ∧ Ch (fun _ => False) w w' := by
 have HA := Text_catch w
 have HB := Text_state w
 go_enter Try.func3, Try.ntmps3
 go_upto_region 2 with (go_at_call 4; refine HA.mono ?_; clear HA; rintro en w1 ⟨s1, rfl, h1, e1, z1⟩; obtain rfl := h1.symm)
 go_upto_region 3 with (first | (go_at_call 4; refine HB.mono ?_; clear HB; rintro en w2 ⟨s2, rfl, h2, e2, z2⟩; obtain rfl := h2.symm; have HC := good_begins good_state z2 e2 w) | (go_at_call 5; refine HC.mono ?_; clear HC; rintro en w3 ⟨rfl, hc3⟩))
 have HD := good_begins good_catch z1 e1 w3
 go_wp2_with (go_at_call 5; refine HD.mono ?_; clear HD; rintro en w4 ⟨rfl, hc4⟩)
 go_ret
 exact ⟨rfl, hc3.trans hc4 (fun _ h => .inl h)⟩
theorem Others_other {s : List UInt8} (w : World) (h0 : s ≠ [115, 116, 97, 116, 101]) (h1 : s ≠ [99, 104, 111, 111, 115, 101]) (h2 : s ≠ [103, 101, 110]) (h3 : s ≠ [115, 99, 104, 101, 100]) (h4 : s ≠ [99, 97, 116, 99, 104]) : Calls Try.prog 3 #[str s] w fun en w' => en = .returned (.bool true) ∧ Ch (fun _ => False) w w' := by
 have HA := Text_other w h0 h1 h2 h3 h4
 have HB := Text_state w
 have e0 : (s == ([115, 116, 97, 116, 101] : List UInt8)) = false := beq_eq_false_iff_ne.2 h0
 have e1 : (s == ([99, 104, 111, 111, 115, 101] : List UInt8)) = false := beq_eq_false_iff_ne.2 h1
 have e2 : (s == ([103, 101, 110] : List UInt8)) = false := beq_eq_false_iff_ne.2 h2
 have e3 : (s == ([115, 99, 104, 101, 100] : List UInt8)) = false := beq_eq_false_iff_ne.2 h3
 have e4 : (s == ([99, 97, 116, 99, 104] : List UInt8)) = false := beq_eq_false_iff_ne.2 h4
 go_enter Try.func3, Try.ntmps3
 go_upto_region 2 with (go_at_call 4; refine HA.mono ?_; clear HA; rintro en w1 ⟨rfl, hh⟩; obtain rfl := hh.symm)
 go_upto_region 3 with (first | (go_at_call 4; refine HB.mono ?_; clear HB; rintro en w2 ⟨s2, rfl, hh2, ee2, z2⟩; obtain rfl := hh2.symm; have HC := good_begins good_state z2 ee2 w) | (go_at_call 5; refine HC.mono ?_; clear HC; rintro en w3 ⟨rfl, hc3⟩))
 go_wp2_with fail
 go_ret
 exact ⟨rfl, hc3⟩
theorem Others_any (s : List UInt8) (w : World) : Calls Try.prog 3 #[str s] w fun en w' => en = .returned (.bool true) ∧ Ch (fun _ => False) w w' := by
 by_cases h0 : s = [115, 116, 97, 116, 101]
 ·rw [h0]; exact Others_state w
 by_cases h1 : s = [99, 104, 111, 111, 115, 101]
 ·rw [h1]; exact Others_choose w
 by_cases h2 : s = [103, 101, 110]
 ·rw [h2]; exact Others_gen w
 by_cases h3 : s = [115, 99, 104, 101, 100]
 ·rw [h3]; exact Others_sched w
 by_cases h4 : s = [99, 97, 116, 99, 104]
 ·rw [h4]; exact Others_catch w
 exact Others_other w h0 h1 h2 h3 h4
end Go.Proofs.Ytejciampbnfbhaa
