import Derived.Test.YtejciampbnfbhaaMTy
import Derived.Test.YtejciampbnfbhaaMTyM
import Derived.Deep.LoopGhost
import Derived.Test.YtejciampbnfbhaaMJf
import Derived.Test.YtejciampbnfbhaaMJm
import Derived.Test.YtejciampbnfbhaaJt
set_option linter.unusedVariables false
set_option linter.unusedSimpArgs false
set_option maxRecDepth 100000
set_option maxHeartbeats 16000000
namespace Go.Proofs.Ytejciampbnfbhaa
open Go.RowKit
theorem insert_any (w : World) (v : Value) (l : List (List UInt8)) (s : List UInt8) (hv : SV w v l) (hn : l.length < 1000000000) :
  Calls Try.prog 77 #[v, str s] w fun e w' => ∃ v', e = .returned v' ∧ Fresh w w' v' (Un.ins s l) := by
 obtain ⟨a, c, rfl, hcase⟩ := id hv
 go_enter Try.func77, Try.ntmps77
 go_wp2
 go_loopg [5, 6] (l.length + 1) (fun k v5 v6 wr => ∃ i : Nat, v6 = .int .i64 (i : Nat) ∧ i ≤ l.length ∧ k = l.length + 1 - i ∧ Fresh w wr v5 (l.take i) ∧ ∀ x ∈ l.take i, x ≤ s)
 case atStart => exact ⟨0, rfl, by omega, by omega, by simpa using Fresh.nil w, by simp⟩
 case round =>
  obtain ⟨i, rfl, hi, rfl, hF, hle⟩ := hrel
  have hvr := hv.keep hF.2.1 (fun _ _ h => h)
  by_cases e : i < l.length
  ·have i1 : (i : Int) < (l.length : Int) := by omega
   have i0 : (0 : Int) ≤ i := by omega
   obtain ⟨x, hx⟩ : ∃ x, l[i]? = some x := ⟨l[i], by simp⟩; obtain ⟨a', c', e1, h | ⟨g, k, rfl, h1, h2, h3⟩⟩ := id hvr
   ·obtain ⟨_, rfl, _⟩ := h; simp at e
   ·cases e1
    have hc := h3 i x hx; replace hx := hid hx; clear h3; have hlq := run_leq x s wr
    by_cases hxs : x ≤ s
    ·have hF2 := hF.quiet (al_ch wr (.cells #[str x] 9))
     have hwi : IntKind.i64.wrap ((i : Int) + 1) = (i : Int) + 1 := IntWalk.i64_in _ (by omega); have hlt : (l.take i).length = i := by simp; omega
     go_wp2_with (at_builtin; go_must (refine list_append_sv rfl (.tmp 19) (.tmp 24) rfl (l := [x]) rfl rfl hF2.1 (one_sv wr x) (by simp <;> omega) ?_); intro v' w1 hrow1 hgrow hblk)
     go_roundg (l.length - i)
     case measure => omega
     case rel =>
      refine ⟨i + 1, by simp, by omega, by omega, ?_, ?_⟩
      ·rw [show l.take (i + 1) = l.take i ++ [x] by rw [List.take_add_one, hx.out]; rfl]
       exact hF2.more hrow1 hgrow hblk
      ·intro y hy
       rw [show l.take (i + 1) = l.take i ++ [x] by rw [List.take_add_one, hx.out]; rfl] at hy
       rcases List.mem_append.1 hy with hy | hy
       ·exact hle y hy
       ·obtain rfl := List.mem_singleton.1 hy; exact hxs
    ·have hF2 := hF.quiet (al_ch wr (.cells #[str s] 9))
     have hlt : (l.take i).length = i := by simp; omega
     have hstop : ∀ y, (l.drop i)[0]? = some y → ¬ y ≤ s := fun y hy => by
      rw [List.getElem?_drop, Nat.add_zero, hx.out] at hy; cases hy; exact hxs
     replace hstop := hid hstop; replace hle := hid hle
     go_wp2_with (first
      | (at_builtin; have _g := hF2; clear _g; go_must (refine list_append_sv rfl (.tmp 28) (.tmp 30) rfl (l := [s]) rfl rfl hF2.1 (one_sv wr s) (by simp <;> omega) ?_); intro v' w1 hrow1 hgrow hblk; have hF3 := hF2.more hrow1 hgrow hblk; clear hrow1 hgrow hblk hF2; have hS3 := (hv.keep hF3.2.1 (fun _ _ h => h)).drop i hi)
      | (at_builtin; go_must (refine list_append_sv rfl (.tmp 32) (.tmp 35) rfl (l := l.drop i) rfl rfl hF3.1 hS3 (by simp <;> omega) ?_); intro v2 w2 hrow2 hgrow2 hblk2; have hF4 := hF3.more hrow2 hgrow2 hblk2; clear hrow2 hgrow2 hblk2))
     go_ret
     refine ⟨v2, by simp, ?_⟩; rw [Un.ins_split s l i hle.out, Un.ins_stop s (l := l.drop i) hstop.out]
     simpa using hF4
  ·have i1 : ¬ (i : Int) < (l.length : Int) := by omega
   obtain rfl : i = l.length := by omega
   have hF2 := hF.quiet (al_ch wr (.cells #[str s] 9)); have hlt : (l.take l.length).length = l.length := by simp
   have hstop : ∀ y, (l.drop l.length)[0]? = some y → ¬ y ≤ s := fun y hy => by simp at hy
   replace hstop := hid hstop; replace hle := hid hle
   rcases hcase with ⟨rfl, rfl, rfl⟩ | ⟨g, k, rfl, hlc, _, _⟩
   ·go_wp2_with (first
      | (at_builtin; have _g := hF2; clear _g; go_must (refine list_append_sv rfl (.tmp 28) (.tmp 30) rfl (l := [s]) rfl rfl hF2.1 (one_sv wr s) (by simp <;> omega) ?_); intro v' w1 hrow1 hgrow hblk; have hF3 := hF2.more hrow1 hgrow hblk; clear hrow1 hgrow hblk hF2; have hS3 := hv.keep hF3.2.1 (fun _ _ h => h))
      | (at_builtin; go_must (refine list_append_sv rfl (.tmp 32) (.tmp 35) rfl (l := []) rfl rfl hF3.1 hS3 (by simp <;> omega) ?_); intro v2 w2 hrow2 hgrow2 hblk2; have hF4 := hF3.more hrow2 hgrow2 hblk2; clear hrow2 hgrow2 hblk2))
    go_ret
    refine ⟨v2, by simp, ?_⟩; rw [Un.ins_split s [] 0 hle.out, Un.ins_stop s (l := List.drop 0 []) hstop.out]
    simpa using hF4
   ·go_wp2_with (first
      | (at_builtin; have _g := hF2; clear _g; go_must (refine list_append_sv rfl (.tmp 28) (.tmp 30) rfl (l := [s]) rfl rfl hF2.1 (one_sv wr s) (by simp <;> omega) ?_); intro v' w1 hrow1 hgrow hblk; have hF3 := hF2.more hrow1 hgrow hblk; clear hrow1 hgrow hblk hF2; have hS3 := (hv.keep hF3.2.1 (fun _ _ h => h)).fin)
      | (at_builtin; go_must (refine list_append_sv rfl (.tmp 32) (.tmp 35) rfl (l := l.drop l.length) rfl rfl hF3.1 hS3 (by simp <;> omega) ?_); intro v2 w2 hrow2 hgrow2 hblk2; have hF4 := hF3.more hrow2 hgrow2 hblk2; clear hrow2 hgrow2 hblk2))
    all_goals
     go_ret
     refine ⟨v2, by simp, ?_⟩; rw [Un.ins_split s l l.length hle.out, Un.ins_stop s (l := l.drop l.length) hstop.out]
     simpa using hF4
end Go.Proofs.Ytejciampbnfbhaa

namespace Go.Proofs.Ytejciampbnfbhaa
open Go.RowKit
def Wt : Ty.P → Prop
 | .int => True
 | .bool => True
 | .unit => True
 | .fn a b _ _ => Wt a ∧ Wt b
 | _ => False
def PartsT (t : Ty.P) : Prop := ∀ {w : World} {os az : Value}, IsT w t os az → Wt t → t.parts < 1000000 →
 Calls Try.prog 49 #[tyV t.kind t.num t.row os az] w fun en w' => en = .returned (.int .i64 (t.parts : Nat)) ∧ Ch (fun _ => False) w w'
theorem Parts_leaf {k : Int} {w : World} {os az : Value} (ho : Nul os) (ha : Nul az) :
  Calls Try.prog 49 #[tyV k 0 0 os az] w fun en w' => en = .returned (.int .i64 1) ∧ Ch (fun _ => False) w w' := by
 obtain ⟨oa, oc, rfl⟩ := ho
 obtain ⟨aa, ac, rfl⟩ := ha
 have hq := hid (al_ch w (tyB k 0 0 (.slice oa 0 oc) (.slice aa 0 ac)))
 have hb : Bx (w.alloc (tyB k 0 0 (.slice oa 0 oc) (.slice aa 0 ac))) w.heap.size k 0 0 (.slice oa 0 oc) (.slice aa 0 ac) := Bx.new w _ _ _ _ _
 obtain ⟨b0, b1, b2, b3, b4⟩ := hb.cells
 go_enter Try.func49, Try.ntmps49
 go_wp2_with fail
 generalize w.alloc (tyB k 0 0 (.slice oa 0 oc) (.slice aa 0 ac)) = w1 at *
 go_loopg [3, 4] 1 (fun q v3 v4 wr => q = 1 ∧ v3 = .int .i64 1 ∧ v4 = .int .i64 0 ∧ wr = w1)
 case atStart => exact ⟨rfl, rfl, rfl, rfl⟩
 case round =>
  obtain ⟨rfl, rfl, rfl, rfl⟩ := hrel
  go_wp2_with fail
  go_ret
  exact ⟨rfl, hq.out⟩
theorem Parts_fn {a b : Ty.P} {l : List (List UInt8)} {r : Nat} (iha : PartsT a) (ihb : PartsT b) : PartsT (.fn a b l r) := by
 intro w os az hi ht hp
 simp only [Ty.P.parts] at hp
 obtain ⟨⟨oa, oc, rfl, hoc, -⟩, g, o, c, os1, az1, os2, az2, rfl, hc2, he1, hi1, he2, hi2⟩ := hi
 show Calls Try.prog 49 #[tyV 6 0 (r : Int) (.slice oa l.length oc) (.slice (some ⟨g, o, none⟩) 2 c)] w _
 have hq := hid (al_ch w (tyB 6 0 r (.slice oa l.length oc) (.slice (some ⟨g, o, none⟩) 2 c)))
 have hb : Bx (w.alloc (tyB 6 0 r (.slice oa l.length oc) (.slice (some ⟨g, o, none⟩) 2 c))) w.heap.size 6 0 r (.slice oa l.length oc) (.slice (some ⟨g, o, none⟩) 2 c) := Bx.new w _ _ _ _ _
 have he1' := hid (he1.of_heap (hq.out.same g he1.lt (fun h => h)))
 have he2' := hid (he2.of_heap (hq.out.same g he2.lt (fun h => h)))
 have hi1' := hid (hi1.carry (fun k hk => hq.out.same k hk.lt (fun h => h)))
 have hi2' := hid (hi2.carry (fun k hk => hq.out.same k hk.lt (fun h => h)))
 obtain ⟨b0, b1, b2, b3, b4⟩ := hb.cells
 have hln : (l.length : Int) < 1000000 := by omega
 replace hb := hid hb
 replace iha := @hid _ @iha
 replace ihb := @hid _ @ihb
 clear he1 he2 hi1 hi2
 go_enter Try.func49, Try.ntmps49
 go_wp2_with fail
 generalize w.alloc (tyB 6 0 r (.slice oa l.length oc) (.slice (some ⟨g, o, none⟩) 2 c)) = w1 at *
 go_loopg [3, 4] 3 (fun q v3 v4 wr => Hid (Ch (fun _ => False) w1 wr) ∧ ((q = 3 ∧ v3 = .int .i64 (1 + (l.length : Int)) ∧ v4 = .int .i64 0) ∨ (q = 2 ∧ v3 = .int .i64 (1 + (l.length : Int) + (a.parts : Int)) ∧ v4 = .int .i64 1) ∨ (q = 1 ∧ v3 = .int .i64 (1 + (l.length : Int) + (a.parts : Int) + (b.parts : Int)) ∧ v4 = .int .i64 2)))
 case atStart => exact ⟨Ch.refl _ _, .inl ⟨rfl, by first | rfl | simp, rfl⟩⟩
 case round =>
  obtain ⟨hch, hrel⟩ := hrel
  obtain ⟨b0, b1, b2, b3, b4⟩ := (hb.out.keep hch.out (fun h => h)).cells
  rcases hrel with ⟨rfl, rfl, rfl⟩ | ⟨rfl, rfl, rfl⟩ | ⟨rfl, rfl, rfl⟩
  ·obtain ⟨x0, x1, x2, x3, x4⟩ := he1'.out.of_heap (hch.out.same g he1'.out.lt (fun h => h))
   have HC := iha.out (hi1'.out.carry (fun k hk => hch.out.same k hk.lt (fun h => h))) ht.1 (by omega); have h1 : (a.parts : Int) < 1000000 := by omega
   go_wp2_with (go_at_call 49; refine HC.mono ?_; clear HC; rintro en w2 ⟨rfl, hq2⟩; replace hq2 := hid (hch.out.trans hq2 (fun _ h => .inl h)))
   go_roundg 2
   case measure => omega
   case rel => exact ⟨hq2, .inr (.inl ⟨rfl, by first | rfl | simp, by first | rfl | simp⟩)⟩
  ·obtain ⟨x0, x1, x2, x3, x4⟩ := he2'.out.of_heap (hch.out.same g he2'.out.lt (fun h => h))
   have HC := ihb.out (hi2'.out.carry (fun k hk => hch.out.same k hk.lt (fun h => h))) ht.2 (by omega); have h1 : (a.parts : Int) < 1000000 := by omega
   have h2 : (b.parts : Int) < 1000000 := by omega
   go_wp2_with (go_at_call 49; refine HC.mono ?_; clear HC; rintro en w2 ⟨rfl, hq2⟩; replace hq2 := hid (hch.out.trans hq2 (fun _ h => .inl h)))
   go_roundg 1
   case measure => omega
   case rel => exact ⟨hq2, .inr (.inr ⟨rfl, by first | rfl | simp, by first | rfl | simp⟩)⟩
  ·go_wp2_with fail
   go_ret
   exact ⟨by simp [Ty.P.parts], hq.out.trans hch.out (fun _ h => .inl h)⟩
theorem Parts_ty : ∀ t : Ty.P, PartsT t
 | .int => fun hi _ _ => Parts_leaf hi.1 hi.2
 | .bool => fun hi _ _ => Parts_leaf hi.1 hi.2
 | .unit => fun hi _ _ => Parts_leaf hi.1 hi.2
 | .fn a b _ _ => Parts_fn (Parts_ty a) (Parts_ty b)
 | .var _ => fun _ h _ => h.elim
 | .list _ => fun _ h _ => h.elim
 | .pair _ _ => fun _ h _ => h.elim
end Go.Proofs.Ytejciampbnfbhaa

namespace Go.Proofs.Ytejciampbnfbhaa
open Go.RowKit Ie
abbrev nodeV (T : Sy.Tr) (v : Value) : Value := .agg #[.int .i64 T.kind, .int .i64 T.pos, .string ⟨T.name.toArray⟩, .int .i64 T.num, v]
abbrev nodeB (T : Sy.Tr) (v : Value) : Obj := .cells #[.int .i64 T.kind, .int .i64 T.pos, .string ⟨T.name.toArray⟩, .int .i64 T.num, v] 35
theorem node_cells {w : World} {n : Nat} {T : Sy.Tr} {v : Value} (h : w.heap[n]? = some (nodeB T v)) : w.cell? ⟨n, 0, none⟩ = some (.int .i64 T.kind) ∧ w.cell? ⟨n, 1, none⟩ = some (.int .i64 T.pos) ∧ w.cell? ⟨n, 2, none⟩ = some (.string ⟨T.name.toArray⟩) ∧ w.cell? ⟨n, 3, none⟩ = some (.int .i64 T.num) ∧ w.cell? ⟨n, 4, none⟩ = some v := by
 refine ⟨?_, ?_, ?_, ?_, ?_⟩ <;> (unfold World.cell?; rw [h]; rfl)
theorem Type_ret {Rr : Ending → World → Prop} {a : Act} {w : World} {x : Nat} {k n r : Int} {os az : Value} (hs : a.tmps[2]? = some (.pointer (some ⟨x, 0, none⟩))) (hd : a.defers = []) (hb : w.heap[x]? = some (tyB k n r os az)) (hR : Rr (.returned (tyV k n r os az)) w) : bodyPost Try.prog Try.f48 Rr .ret a w := by
 obtain ⟨h0, h1, h2, h3, h4⟩ := Bx.cells hb
 exact bodyPost_ret (v := tyV k n r os az) (by simp [results, Try.results48, go_sem, hs, h0, h1, h2, h3, h4]) hd hR
theorem Kids.cons {w : World} {F : Nat → Prop} {v : Value} {l : List Sy.Tr} (h : Kids w F v l) (hl : l ≠ []) : ∃ g c, v = .slice (some ⟨g, 0, none⟩) l.length c ∧ F g ∧ ∀ i T, l[i]? = some T → ∃ k, NodeAt w g (i * 5) T k ∧ Kids w F k T.kids := by
 cases h with
 | nil => exact absurd rfl hl
 | row g c kids ks hg h0 hc hcell hk => exact ⟨g, c, rfl, hg, fun i T hT => by
   obtain ⟨hi, rfl⟩ := List.getElem?_eq_some_iff.1 hT
   exact ⟨ks i, hcell i hi, hk i hi⟩⟩
theorem Kids.quiet {w w' : World} {F : Nat → Prop} {v : Value} {l : List Sy.Tr} (h : Kids w F v l) (hc : Ch (fun _ => False) w w') : Kids w' F v l := h.carry (fun q _ hq => hc.same q hq (fun h => h)) (fun _ hq _ => hq)
theorem Type_leaf1 {w : World} {T : Sy.Tr} {v : Value} (hk : T.kind = 24) :
  Calls Try.prog 48 #[nodeV T v] w fun en w' => ∃ os az, en = .returned (tyV (Ty.P.kind .int) (Ty.P.num .int) (Ty.P.row .int) os az) ∧ Rb w.heap.size w' .int os az ∧ Ch (fun _ => False) w w' := by
 have hb0 : ((w.alloc (nodeB T v)).alloc (tyB 0 0 0 (.slice none 0 0) (.slice none 0 0))).heap[w.heap.size]? = some (nodeB T v) := blk_alloc (World.alloc_heap_new w _)
 have hb1 := World.alloc_heap_new (w.alloc (nodeB T v)) (tyB 0 0 0 (.slice none 0 0) (.slice none 0 0))
 have hq := (al_ch w (nodeB T v)).al (tyB 0 0 0 (.slice none 0 0) (.slice none 0 0))
 rw [al_size] at hb1
 obtain ⟨p0, p1, p2, p3, p4⟩ := node_cells hb0
 obtain ⟨⟨q0, q1, q2, q3, q4⟩, qf⟩ := ty_cells hb1
 rw [hk] at p0
 clear hk
 replace hb1 := hid hb1
 replace hq := hid hq
 clear hb0
 go_enter Try.func48, Try.ntmps48
 go_upto_region 1 with (fail)
 generalize (w.alloc (nodeB T v)).alloc (tyB 0 0 0 (.slice none 0 0) (.slice none 0 0)) = w1 at *
 go_wp2_with fail
 exact Type_ret (k := 1) (n := 0) (r := 0) (os := .slice none 0 0) (az := .slice none 0 0) rfl rfl (set5_blk hb1.out) ⟨_, _, rfl, Rb.leaf (by simp [Ty.P.kind]) nul0 nul0, set5_ch hq.out (.inr (Nat.le_succ _))⟩
theorem Type_leaf2 {w : World} {T : Sy.Tr} {v : Value} (hk : T.kind = 25) :
  Calls Try.prog 48 #[nodeV T v] w fun en w' => ∃ os az, en = .returned (tyV (Ty.P.kind .bool) (Ty.P.num .bool) (Ty.P.row .bool) os az) ∧ Rb w.heap.size w' .bool os az ∧ Ch (fun _ => False) w w' := by
 have hb0 : ((w.alloc (nodeB T v)).alloc (tyB 0 0 0 (.slice none 0 0) (.slice none 0 0))).heap[w.heap.size]? = some (nodeB T v) := blk_alloc (World.alloc_heap_new w _)
 have hb1 := World.alloc_heap_new (w.alloc (nodeB T v)) (tyB 0 0 0 (.slice none 0 0) (.slice none 0 0))
 have hq := (al_ch w (nodeB T v)).al (tyB 0 0 0 (.slice none 0 0) (.slice none 0 0))
 rw [al_size] at hb1
 obtain ⟨p0, p1, p2, p3, p4⟩ := node_cells hb0
 obtain ⟨⟨q0, q1, q2, q3, q4⟩, qf⟩ := ty_cells hb1
 rw [hk] at p0
 clear hk
 replace hb1 := hid hb1
 replace hq := hid hq
 clear hb0
 go_enter Try.func48, Try.ntmps48
 go_upto_region 1 with (fail)
 generalize (w.alloc (nodeB T v)).alloc (tyB 0 0 0 (.slice none 0 0) (.slice none 0 0)) = w1 at *
 go_wp2_with fail
 exact Type_ret (k := 2) (n := 0) (r := 0) (os := .slice none 0 0) (az := .slice none 0 0) rfl rfl (set5_blk hb1.out) ⟨_, _, rfl, Rb.leaf (by simp [Ty.P.kind]) nul0 nul0, set5_ch hq.out (.inr (Nat.le_succ _))⟩
theorem Type_leaf3 {w : World} {T : Sy.Tr} {v : Value} (hk : T.kind = 26) :
  Calls Try.prog 48 #[nodeV T v] w fun en w' => ∃ os az, en = .returned (tyV (Ty.P.kind .unit) (Ty.P.num .unit) (Ty.P.row .unit) os az) ∧ Rb w.heap.size w' .unit os az ∧ Ch (fun _ => False) w w' := by
 have hb0 : ((w.alloc (nodeB T v)).alloc (tyB 0 0 0 (.slice none 0 0) (.slice none 0 0))).heap[w.heap.size]? = some (nodeB T v) := blk_alloc (World.alloc_heap_new w _)
 have hb1 := World.alloc_heap_new (w.alloc (nodeB T v)) (tyB 0 0 0 (.slice none 0 0) (.slice none 0 0))
 have hq := (al_ch w (nodeB T v)).al (tyB 0 0 0 (.slice none 0 0) (.slice none 0 0))
 rw [al_size] at hb1
 obtain ⟨p0, p1, p2, p3, p4⟩ := node_cells hb0
 obtain ⟨⟨q0, q1, q2, q3, q4⟩, qf⟩ := ty_cells hb1
 rw [hk] at p0
 clear hk
 replace hb1 := hid hb1
 replace hq := hid hq
 clear hb0
 go_enter Try.func48, Try.ntmps48
 go_upto_region 1 with (fail)
 generalize (w.alloc (nodeB T v)).alloc (tyB 0 0 0 (.slice none 0 0) (.slice none 0 0)) = w1 at *
 go_wp2_with fail
 exact Type_ret (k := 3) (n := 0) (r := 0) (os := .slice none 0 0) (az := .slice none 0 0) rfl rfl (set5_blk hb1.out) ⟨_, _, rfl, Rb.leaf (by simp [Ty.P.kind]) nul0 nul0, set5_ch hq.out (.inr (Nat.le_succ _))⟩
def TypeOK (k : Nat) : Prop := ∀ {w : World} {F : Nat → Prop} {T : Sy.Tr} {v : Value} {t : Ty.P}, Kids w F v T.kids → typ k T = some t →
 Calls Try.prog 48 #[nodeV T v] w fun en w' => ∃ os az, en = .returned (tyV t.kind t.num t.row os az) ∧ Rb w.heap.size w' t os az ∧ Ch (fun _ => False) w w'
theorem two_own {w : World} {g : Nat} {a0 a1 a2 a3 a4 b0 b1 b2 b3 b4 : Value} (h : w.heap[g]? = some (.cells #[a0, a1, a2, a3, a4, b0, b1, b2, b3, b4] 49 (0, 0))) : w.ownsRow 0 49 5 (.slice (some ⟨g, 0, none⟩) 2 2) 2 [a0, a1, a2, a3, a4, b0, b1, b2, b3, b4] :=
 ⟨rfl, .inr ⟨g, 2, _, rfl, Nat.zero_le _, h, Nat.le_refl _, by decide, rfl, rfl⟩⟩
end Go.Proofs.Ytejciampbnfbhaa

namespace Go.Proofs.Ytejciampbnfbhaa
open Go.RowKit Ie
theorem Op_any {w : World} {c : Nat} {ov : Value} {ops : List Opr} (hc : w.cell? ⟨c, 2, none⟩ = some ov) (h : OpsIn w ov ops) (hl : ops.length < 1000000) (name : List UInt8) :
  Calls Try.prog 46 #[.pointer (some ⟨c, 0, none⟩), str name] w fun en w' => Ch (fun _ => False) w w' ∧ ((ops.find? (fun o => o.name == name) = Option.none ∧ en = .returned (.pointer none)) ∨ ∃ g i o, ops.find? (fun o => o.name == name) = some o ∧ ops[i]? = some o ∧ en = .returned (.pointer (some ⟨g, i * 12, none⟩)) ∧ OpAt w g (i * 12) o ∧ ∃ cap, ov = .slice (some ⟨g, 0, none⟩) ops.length cap) := by
 obtain ⟨a, cap, rfl, hop⟩ := h
 replace hc := hid hc
 go_enter Try.func46, Try.ntmps46
 go_wp2_with fail
 go_loopg [5] (ops.length + 1) (fun q v wr => ∃ (i : Nat), v = .int .i64 (i : Nat) ∧ i ≤ ops.length ∧ q = ops.length + 1 - i ∧ Hid (∀ o ∈ ops.take i, ¬ o.name = name) ∧ Hid (Ch (fun _ => False) w wr))
 case atStart => exact ⟨0, rfl, by omega, by omega, hid (by simp), hid (Ch.refl _ _)⟩
 case round =>
  obtain ⟨i, rfl, hi, rfl, hno, hw⟩ := hrel
  have c2 := cell_keeps hw.out hc.out
  by_cases hlt : i < ops.length
  ·obtain ⟨o, ho⟩ : ∃ o, ops[i]? = some o := ⟨_, List.getElem?_eq_getElem hlt⟩
   obtain ⟨g, rfl, hat⟩ := hop (by omega); have hA := hid (hat i o ho); obtain ⟨-, -, -, -, -, o0, -⟩ := hat i o ho; replace o0 := cell_keeps hw.out o0; have i1 : (i : Int) < (ops.length : Int) := by omega
   have i0 : (0 : Int) ≤ (i : Int) := by omega
   have hwi : IntKind.i64.wrap ((i : Int) + 1) = (i : Int) + 1 := IntWalk.i64_in _ (by omega); replace ho := hid ho; clear hop hat
   by_cases hn : o.name = name
   ·subst hn
    have hfin : Hid (ops.find? (fun p => p.name == o.name) = some o) := hid (by
     rw [← List.take_append_drop i ops, List.find?_append, List.find?_eq_none.2 (fun p hp => by simpa using hno.out p hp), List.drop_eq_getElem_cons hlt, (List.getElem?_eq_some_iff.1 ho.out).2]
     simp)
    go_wp2_with fail
    go_ret
    exact ⟨hw.out, .inr ⟨g, i, o, hfin.out, ho.out, rfl, hA.out, _, rfl⟩⟩
   ·have hn2 : (o.name == name) = false := by simpa using hn
    go_wp2_with fail
    go_roundg (ops.length + 1 - (i + 1))
    case measure => omega
    case rel => 
     refine ⟨i + 1, by simp, by omega, rfl, hid fun p hp => ?_, ?_⟩
     ·rw [List.take_add_one, ho.out] at hp
      rcases List.mem_append.1 hp with hp | hp
      ·exact hno.out p hp
      ·obtain rfl : p = o := by simpa using hp
       exact hn
     ·exact hw
  ·have i1 : ¬ (i : Int) < (ops.length : Int) := by omega
   clear hop
   go_wp2_with fail
   go_ret
   exact ⟨hw.out, .inl ⟨fun p hp => hno.out p (by rwa [List.take_of_length_le (by omega)]), rfl⟩⟩
theorem Value_any {w : World} {T : Sy.Tr} {v : Value} {k : Nat} (hk : (T.kind : Int) = k) :
  Calls Try.prog 86 #[nodeV T v] w fun en w' => en = .returned (.bool (value k)) ∧ Ch (fun _ => False) w w' := by
 have hb := World.alloc_heap_new w (nodeB T v)
 have hq := al_ch w (nodeB T v)
 obtain ⟨p0, p1, p2, p3, p4⟩ := node_cells hb
 rw [hk] at p0
 replace hq := hid hq
 clear hb p1 p2 p3 p4
 go_enter Try.func86, Try.ntmps86
 go_upto_region 1 with (fail)
 by_cases k3 : k = 3
 ·subst k3
  go_wp2_with fail
  go_ret
  exact ⟨rfl, al_ch w _⟩
 have j3 : ((k : Int) == 3) = false := by rw [beq_eq_false_iff_ne]; omega
 by_cases k4 : k = 4
 ·subst k4
  go_wp2_with fail
  go_ret
  exact ⟨rfl, al_ch w _⟩
 have j4 : ((k : Int) == 4) = false := by rw [beq_eq_false_iff_ne]; omega
 by_cases k5 : k = 5
 ·subst k5
  go_wp2_with fail
  go_ret
  exact ⟨rfl, al_ch w _⟩
 have j5 : ((k : Int) == 5) = false := by rw [beq_eq_false_iff_ne]; omega
 by_cases k15 : k = 15
 ·subst k15
  go_wp2_with fail
  go_ret
  exact ⟨rfl, al_ch w _⟩
 have j15 : ((k : Int) == 15) = false := by rw [beq_eq_false_iff_ne]; omega
 by_cases k6 : k = 6
 ·subst k6
  go_wp2_with fail
  go_ret
  exact ⟨rfl, al_ch w _⟩
 have j6 : ((k : Int) == 6) = false := by rw [beq_eq_false_iff_ne]; omega
 by_cases k7 : k = 7
 ·subst k7
  go_wp2_with fail
  go_ret
  exact ⟨rfl, al_ch w _⟩
 have j7 : ((k : Int) == 7) = false := by rw [beq_eq_false_iff_ne]; omega
 go_wp2_with fail
 go_ret
 exact ⟨by simp [value, *], al_ch w _⟩
end Go.Proofs.Ytejciampbnfbhaa

namespace Go.Proofs.Ytejciampbnfbhaa
open Go.RowKit Ie
def NmsIn (w : World) (v : Value) (all : List (List UInt8)) : Prop := ∃ a c, v = .slice a all.length c ∧ (0 < all.length → ∃ g, a = some ⟨g, 0, none⟩ ∧ ∀ (i : Nat) n, all[i]? = some n → w.cell? ⟨g, i, none⟩ = some (str n))
theorem NmsIn.ch {w w' : World} {v : Value} {all : List (List UInt8)} (h : NmsIn w v all) (hc : Ch (fun _ => False) w w') : NmsIn w' v all := by
 obtain ⟨a, c, h1, h2⟩ := h
 refine ⟨a, c, h1, fun h0 => ?_⟩
 obtain ⟨g, h3, h4⟩ := h2 h0
 exact ⟨g, h3, fun i n hi => cell_keeps hc (h4 i n hi)⟩
theorem Ok_cell {w : World} {c : Nat} (c3 : w.cell? ⟨c, 3, none⟩ = some (.int .i64 0)) : Calls Try.prog 26 #[.pointer (some ⟨c, 0, none⟩)] w fun en w' => en = .returned (.bool true) ∧ w' = w := by
 go_enter Try.func26, Try.ntmps26
 go_wp2
 go_ret
 exact ⟨rfl, rfl⟩
def RowOK (k : Nat) : Prop := ∀ {w : World} {F : Nat → Prop} {T : Sy.Tr} {v av : Value} {c : Nat} {all : List (List UInt8)}, Kids w F v T.kids → w.cell? ⟨c, 3, none⟩ = some (.int .i64 0) → NmsIn w av all → all.length < 1000000 → rowsOk all k T = true → ∀ {y : Ty.P}, typ k T = some y →
 Calls Try.prog 47 #[.pointer (some ⟨c, 0, none⟩), nodeV T v, av] w fun en w' => en = .returned (.tuple #[]) ∧ Ch (fun _ => False) w w'
theorem Row_leaf {w : World} {T : Sy.Tr} {av : Value} {c : Nat} (c3 : w.cell? ⟨c, 3, none⟩ = some (.int .i64 0)) (hk : ((T.kind : Int) != 29) = true) :
  Calls Try.prog 47 #[.pointer (some ⟨c, 0, none⟩), nodeV T (.slice none 0 0), av] w fun en w' => en = .returned (.tuple #[]) ∧ Ch (fun _ => False) w w' := by
 have hb := World.alloc_heap_new w (nodeB T (.slice none 0 0))
 have hq := hid (al_ch w (nodeB T (.slice none 0 0)))
 obtain ⟨p0, -, -, -, p4⟩ := node_cells hb
 have HO := Ok_cell (cell_keeps hq.out c3)
 clear hb
 go_enter Try.func47, Try.ntmps47
 go_wp2_with (go_at_call 26; refine HO.mono ?_; clear HO; rintro en w1 ⟨rfl, hw1⟩; obtain rfl := hw1.symm)
 go_loopg [6] 1 (fun q v wr => q = 1 ∧ v = .int .i64 0 ∧ Hid (Ch (fun _ => False) (w.alloc (nodeB T (.slice none 0 0))) wr))
 case atStart => exact ⟨rfl, rfl, hid (Ch.refl _ _)⟩
 case round =>
  obtain ⟨rfl, rfl, hw⟩ := hrel
  have p4 := cell_keeps hw.out p4
  go_wp2_with fail
  (first | go_end0 | ((try simp only [Exit.inBlock, Exit.then]); refine bodyPost_ret (results_none rfl _ _ _) rfl ?_))
  exact ⟨by first | rfl | simp, hq.out.trans hw.out (fun _ h => h.elim)⟩
theorem Row_fn {k : Nat} (ih : RowOK k) {w : World} {F : Nat → Prop} {T a b : Sy.Tr} {v av : Value} {l : List Sy.Tr} {x y : Ty.P} {c : Nat} {all : List (List UInt8)} (hk : T.kind = 29) (hks : T.kids = a :: b :: l) (h : Kids w F v T.kids) (c3 : w.cell? ⟨c, 3, none⟩ = some (.int .i64 0)) (hav : NmsIn w av all) (hal : all.length < 1000000)
  (hra : rowsOk all k a = true) (hrb : rowsOk all k b = true) (hall : ∀ t ∈ l, all.contains t.name = true) (hnd : (l.map (·.name)).Nodup) (hx : typ k a = some x) (hy : typ k b = some y) (hl : l.length < 1000000) :
  Calls Try.prog 47 #[.pointer (some ⟨c, 0, none⟩), nodeV T v, av] w fun en w' => en = .returned (.tuple #[]) ∧ Ch (fun _ => False) w w' := by
 rw [hks] at h
 obtain ⟨g, cp, hv, hFg, hn⟩ := h.cons (by simp)
 simp only [List.length_cons] at hv
 subst hv
 have j0 : (0 : Int) < (l.length : Int) + 1 + 1 := by omega
 have j1 : (1 : Int) < (l.length : Int) + 1 + 1 := by omega
 have hb := World.alloc_heap_new w (nodeB T (.slice (some ⟨g, 0, none⟩) (l.length + 1 + 1) cp))
 have hq := hid (al_ch w (nodeB T (.slice (some ⟨g, 0, none⟩) (l.length + 1 + 1) cp)))
 obtain ⟨p0, -, -, -, p4⟩ := node_cells hb
 rw [hk] at p0
 have HO := Ok_cell (cell_keeps hq.out c3)
 obtain ⟨va, ⟨a0, a1, a2, a3, a4⟩, hka⟩ := hn 0 a rfl
 obtain ⟨vb, ⟨d0, d1, d2, d3, d4⟩, hkb⟩ := hn 1 b rfl
 have HA := hid (fun (W : World) (hW : Ch (fun _ => False) w W) => ih (hka.quiet hW) (cell_keeps hW c3) (hav.ch hW) hal hra hx)
 have HB := hid (fun (W : World) (hW : Ch (fun _ => False) w W) => ih (hkb.quiet hW) (cell_keeps hW c3) (hav.ch hW) hal hrb hy)
 have hkid : Hid (∀ i T, l[i]? = some T → w.cell? ⟨g, (i + 2) * 5 + 2, none⟩ = some (str T.name)) := hid fun i T hT => by
  obtain ⟨k, hk, _⟩ := hn (i + 2) T (by simpa using hT)
  exact hk.2.2.1
 clear hb hk hks h hka hkb hn
 have a0 := cell_keeps hq.out a0
 have a1 := cell_keeps hq.out a1
 have a2 := cell_keeps hq.out a2
 have a3 := cell_keeps hq.out a3
 have a4 := cell_keeps hq.out a4
 have HA1 := HA.out _ hq.out
 replace hnd := hid hnd
 replace hall := hid hall
 replace hav := hid hav
 go_enter Try.func47, Try.ntmps47
 go_upto_region 8 with (first | (go_at_call 26; refine HO.mono ?_; clear HO; rintro en w1 ⟨rfl, hw1⟩; obtain rfl := hw1.symm) | (go_at_call 47; refine HA1.mono ?_; clear HA1; rintro en w2 ⟨rfl, hq2⟩))
 have hc2 := hid (hq.out.trans hq2 (fun _ h => h.elim))
 have p4 := cell_keeps hq2 p4
 clear a0 a1 a2 a3 a4 HA hq2 hq
 go_wp2_with fail
 go_loopg [7] (l.length + 1) (fun q v7 wr => ∃ (i : Nat), v7 = .int .i64 ((i : Int) + 2) ∧ i ≤ l.length ∧ q = l.length + 1 - i ∧ Hid (Ch (fun _ => False) w2 wr))
 case atStart => exact ⟨0, by first | rfl | simp, by omega, by omega, hid (Ch.refl _ _)⟩
 case round =>
  obtain ⟨i, rfl, hi, rfl, hwr⟩ := hrel
  rename World => wo
  have q4 := cell_keeps hwr.out p4
  have hcr := hid (hc2.out.trans hwr.out (fun _ h => h.elim))
  by_cases hlt : i < l.length
  ·obtain ⟨t, ht⟩ : ∃ t, l[i]? = some t := ⟨_, List.getElem?_eq_getElem hlt⟩
   have hin : Hid (all.contains t.name = true) := hid (hall.out t (List.mem_of_getElem? ht)); have k0 : (0 : Int) ≤ (i : Int) + 2 := by omega
   have k1 : (i : Int) + 2 < (l.length : Int) + 1 + 1 := by omega
   have k2 : ((i : Int) + 2).toNat = i + 2 := by omega
   have hnm := cell_keeps hcr.out (hkid.out i t ht); replace ht := hid ht
   go_wp2_with fail
   go_loopg [8, 9] (all.length + 1) (fun q v8 v9 wj => ∃ (j : Nat), v9 = .int .i64 (j : Nat) ∧ j ≤ all.length ∧ q = all.length + 1 - j ∧ v8 = .bool ((all.take j).contains t.name) ∧ Hid (Ch (fun _ => False) wo wj))
   case atStart => exact ⟨0, rfl, by omega, by omega, by simp, hid (Ch.refl _ _)⟩
   case round =>
    obtain ⟨j, rfl, hj, rfl, rfl, hwj⟩ := hrel; have p4 := cell_keeps hwj.out q4; have hnm := cell_keeps hwj.out hnm; obtain ⟨aa, ac, rfl, hal2⟩ := hav.out
    by_cases hjl : j < all.length
    ·obtain ⟨ag, rfl, hal3⟩ := hal2 (by omega)
     obtain ⟨n, hn⟩ : ∃ n, all[j]? = some n := ⟨_, List.getElem?_eq_getElem hjl⟩; have an := cell_keeps hwj.out (cell_keeps hcr.out (hal3 j n hn)); have j2 : (j : Int) < (all.length : Int) := by omega
     have j3 : (0 : Int) ≤ (j : Int) := by omega
     have hwi : IntKind.i64.wrap ((j : Int) + 1) = (j : Int) + 1 := IntWalk.i64_in _ (by omega)
     have htk : Hid ((all.take (j + 1)).contains t.name = ((all.take j).contains t.name || n == t.name)) := hid (by
      rw [List.take_add_one, hn, Option.toList_some, List.contains_eq_any_beq, List.any_append, List.contains_eq_any_beq, List.any_cons, List.any_nil, Bool.or_false, Bool.beq_comm])
     clear hal2 hal3; replace hn := hid hn
     cases hct : (all.take j).contains t.name with
     | true =>
      rw [hct] at htk; replace hct := hid hct
      go_upto_region 15 with (fail)
      go_quiet (fail)
      go_wp2_with fail
      go_roundg (all.length + 1 - (j + 1))
      case measure => omega
      case rel => exact ⟨j + 1, by simp, by omega, rfl, by rw [htk.out]; simp, hid (hwj.out.dn _)⟩
     | false =>
      rw [hct] at htk; replace hct := hid hct
      cases hnt : (n == t.name) with
      | true =>
       rw [hnt] at htk
       go_upto_region 15 with (fail)
       go_quiet (fail)
       go_wp2_with fail
       go_roundg (all.length + 1 - (j + 1))
       case measure => omega
       case rel => exact ⟨j + 1, by simp, by omega, rfl, by rw [htk.out]; simp, hid (hwj.out.dn _)⟩
      | false =>
       rw [hnt] at htk
       go_upto_region 15 with (fail)
       go_quiet (fail)
       go_wp2_with fail
       go_roundg (all.length + 1 - (j + 1))
       case measure => omega
       case rel => exact ⟨j + 1, by simp, by omega, rfl, by rw [htk.out]; simp, hid (hwj.out.dn _)⟩
    ·obtain rfl : j = all.length := by omega
     clear hal2; have j2 : ¬ (all.length : Int) < (all.length : Int) := by omega
     rw [List.take_length, hin.out]
     go_wp2_with fail
     go_loopg [10] (i + 1) (fun q v10 wm => ∃ (m : Nat), v10 = .int .i64 ((m : Int) + 2) ∧ m ≤ i ∧ q = i + 1 - m ∧ Hid (Ch (fun _ => False) wo wm))
     case atStart => exact ⟨0, by first | rfl | simp, by omega, by omega, hid hwj.out⟩
     case round =>
      obtain ⟨m, rfl, hm, rfl, hwm⟩ := hrel; have p4 := cell_keeps hwm.out q4
      by_cases hml : m < i
      ·obtain ⟨u, hu⟩ : ∃ u, l[m]? = some u := ⟨_, List.getElem?_eq_getElem (by omega)⟩
       have hum := cell_keeps hwm.out (cell_keeps hcr.out (hkid.out m u hu)); have hnm2 := cell_keeps hwm.out (cell_keeps hcr.out (hkid.out i t ht.out)); have m0 : (0 : Int) ≤ (m : Int) + 2 := by omega
       have m1 : (m : Int) + 2 < (l.length : Int) + 1 + 1 := by omega
       have m2 : ((m : Int) + 2).toNat = m + 2 := by omega
       have m3 : (m : Int) + 2 < (i : Int) + 2 := by omega
       have hwi : IntKind.i64.wrap ((m : Int) + 2 + 1) = (m : Int) + 2 + 1 := IntWalk.i64_in _ (by omega)
       have hne : (u.name == t.name) = false := by
        rw [beq_eq_false_iff_ne]; intro e; have h1 := hnd.out; have h2 : (l.map (·.name))[m]? = (l.map (·.name))[i]? := by rw [List.getElem?_map, List.getElem?_map, hu, ht.out]; simp [e]
        have h3 := (List.getElem?_inj (by simp; omega) h1).1 h2; omega
       clear hnm; replace hu := hid hu
       go_upto_region 21 with (fail)
       go_quiet (fail)
       go_wp2_with fail
       go_roundg (i + 1 - (m + 1))
       case measure => omega
       case rel => exact ⟨m + 1, by simp; omega, by omega, rfl, hid (hwm.out.dn _)⟩
      ·obtain rfl : m = i := by omega
       have m3 : ¬ (m : Int) + 2 < (m : Int) + 2 := by omega
       have hwi : IntKind.i64.wrap ((m : Int) + 2 + 1) = (m : Int) + 2 + 1 := IntWalk.i64_in _ (by omega)
       go_wp2_with fail
       go_roundg (l.length + 1 - (m + 1))
       case measure => omega
       case rel => exact ⟨m + 1, by simp; omega, by omega, rfl, hid (hwr.out.trans hwm.out (fun _ h => h.elim))⟩
  ·obtain rfl : i = l.length := by omega
   have k1 : ¬ (l.length : Int) + 2 < (l.length : Int) + 1 + 1 := by omega
   have HB2 := HB.out _ hcr.out; have d0 := cell_keeps hcr.out d0; have d1 := cell_keeps hcr.out d1; have d2 := cell_keeps hcr.out d2; have d3 := cell_keeps hcr.out d3; have d4 := cell_keeps hcr.out d4
   go_wp2_with (go_at_call 47; refine HB2.mono ?_; clear HB2; rintro en w9 ⟨rfl, hq9⟩)
   (first | go_end0 | ((try simp only [Exit.inBlock, Exit.then]); refine bodyPost_ret (results_none rfl _ _ _) rfl ?_))
   exact ⟨by first | rfl | simp, hcr.out.trans hq9 (fun _ h => h.elim)⟩
theorem Row_leaf' {w : World} {F : Nat → Prop} {T : Sy.Tr} {v av : Value} {c : Nat} (c3 : w.cell? ⟨c, 3, none⟩ = some (.int .i64 0)) (hk : ((T.kind : Int) != 29) = true) (h : Kids w F v []) :
  Calls Try.prog 47 #[.pointer (some ⟨c, 0, none⟩), nodeV T v, av] w fun en w' => en = .returned (.tuple #[]) ∧ Ch (fun _ => False) w w' := by
 generalize hl : ([] : List Sy.Tr) = l at h
 cases h with
 | nil => exact Row_leaf c3 hk
 | row _ _ _ _ _ h0 => exact absurd hl.symm h0
theorem Row_step {k : Nat} (ih : RowOK k) : RowOK (k + 1) := by
 intro w F T v av c all h c3 hav hal hr y hy
 unfold rowsOk at hr
 unfold typ at hy
 split at hr
 ·rename_i e1 e2; rw [e2] at h; exact Row_leaf' c3 (by rw [e1]; decide) h
 ·rename_i e1 e2; rw [e2] at h; exact Row_leaf' c3 (by rw [e1]; decide) h
 ·rename_i e1 e2; rw [e2] at h; exact Row_leaf' c3 (by rw [e1]; decide) h
 ·rename_i a b l e1 e2
  rw [e1, e2] at hy
  simp only at hy
  split at hy
  ·obtain ⟨x, hx, hy2⟩ := Option.bind_eq_some_iff.1 hy
   obtain ⟨z, hz, -⟩ := Option.map_eq_some_iff.1 hy2; simp only [Bool.and_eq_true, List.all_eq_true, decide_eq_true_eq] at hr; exact Row_fn ih e1 e2 h c3 hav hal hr.1.1 hr.2 hr.1.2.1 hr.1.2.2 hx hz (by omega)
  ·cases hy
 ·cases hr
theorem Row_any : ∀ k, RowOK k
 | 0 => fun _ _ _ _ h => by cases h
 | k + 1 => Row_step (Row_any k)
end Go.Proofs.Ytejciampbnfbhaa

namespace Go.Proofs.Ytejciampbnfbhaa
open Go.RowKit Ie
def InfOK (f : Nat) (ops : List Opr) (k : Nat) : Prop := ∀ {w : World} {Q : Cc} {K : Ck} {es : Env} {e e' : E} {T : Sy.Tr} {v : Value} {row m : Int}, CM w Q K es ops e → es.length + 2 * k < 1000000 → Kids w Q.F v T.kids → exprE f ops k (es.map (·.1)) e T row = some (m, e') →
 Calls Try.prog 36 #[.pointer (some ⟨Q.c, 0, none⟩), nodeV T v, .int .i64 row] w fun en w' => en = .returned (.int .i64 m) ∧ CS w Q K es ops w' e'
theorem CS.pre {w w1 w2 : World} {Q : Cc} {K : Ck} {es : Env} {ops : List Opr} {e : E} (hq : Ch (fun _ => False) w w1) (h : CS w1 Q K es ops w2 e) : CS w Q K es ops w2 e := CS.after (hq.mono (fun _ h => h.elim)) (fun _ h => .inl h) h
section
variable {w : World} {Q : Cc} {K : Ck} {es : Env} {ops : List Opr} {e e' : E} {T : Sy.Tr} {v : Value} {row m : Int}
theorem Expr_int (h : CM w Q K es ops e) (hk : T.kind = 3) (hp : e.put 1 (-1) (-1) 0 = some (m, e')) :
  Calls Try.prog 36 #[.pointer (some ⟨Q.c, 0, none⟩), nodeV T v, .int .i64 row] w fun en w' => en = .returned (.int .i64 m) ∧ CS w Q K es ops w' e' := by
 have hb := World.alloc_heap_new w (nodeB T v)
 have hq := hid (al_ch w (nodeB T v))
 have h1 := hid (h.quiet hq.out)
 obtain ⟨p0, -, -, -, -⟩ := node_cells hb
 rw [hk] at p0
 obtain ⟨c0, -, -, -, -⟩ := h1.out.cells
 have HO := Ok_any h1.out
 have HP := h1.out.ge.Put hp
 clear hb hk hp h
 go_enter Try.func36, Try.ntmps36
 go_wp2_with (first | (go_at_call 26; refine HO.mono ?_; clear HO; rintro en w1 ⟨rfl, hw1⟩; obtain rfl := hw1.symm) | (go_at_call 63; refine HP.mono ?_; clear HP; rintro en w2 ⟨rfl, hg⟩))
 go_ret
 exact ⟨rfl, CS.pre hq.out (h1.out.graph hg)⟩
theorem Expr_bool (h : CM w Q K es ops e) (hk : T.kind = 4) (hp : e.put 2 (-1) (-1) 0 = some (m, e')) :
  Calls Try.prog 36 #[.pointer (some ⟨Q.c, 0, none⟩), nodeV T v, .int .i64 row] w fun en w' => en = .returned (.int .i64 m) ∧ CS w Q K es ops w' e' := by
 have hb := World.alloc_heap_new w (nodeB T v)
 have hq := hid (al_ch w (nodeB T v))
 have h1 := hid (h.quiet hq.out)
 obtain ⟨p0, -, -, -, -⟩ := node_cells hb
 rw [hk] at p0
 obtain ⟨c0, -, -, -, -⟩ := h1.out.cells
 have HO := Ok_any h1.out
 have HP := h1.out.ge.Put hp
 clear hb hk hp h
 go_enter Try.func36, Try.ntmps36
 go_wp2_with (first | (go_at_call 26; refine HO.mono ?_; clear HO; rintro en w1 ⟨rfl, hw1⟩; obtain rfl := hw1.symm) | (go_at_call 63; refine HP.mono ?_; clear HP; rintro en w2 ⟨rfl, hg⟩))
 go_ret
 exact ⟨rfl, CS.pre hq.out (h1.out.graph hg)⟩
theorem Expr_unit (h : CM w Q K es ops e) (hk : T.kind = 5) (hp : e.put 3 (-1) (-1) 0 = some (m, e')) :
  Calls Try.prog 36 #[.pointer (some ⟨Q.c, 0, none⟩), nodeV T v, .int .i64 row] w fun en w' => en = .returned (.int .i64 m) ∧ CS w Q K es ops w' e' := by
 have hb := World.alloc_heap_new w (nodeB T v)
 have hq := hid (al_ch w (nodeB T v))
 have h1 := hid (h.quiet hq.out)
 obtain ⟨p0, -, -, -, -⟩ := node_cells hb
 rw [hk] at p0
 obtain ⟨c0, -, -, -, -⟩ := h1.out.cells
 have HO := Ok_any h1.out
 have HP := h1.out.ge.Put hp
 clear hb hk hp h
 go_enter Try.func36, Try.ntmps36
 go_wp2_with (first | (go_at_call 26; refine HO.mono ?_; clear HO; rintro en w1 ⟨rfl, hw1⟩; obtain rfl := hw1.symm) | (go_at_call 63; refine HP.mono ?_; clear HP; rintro en w2 ⟨rfl, hg⟩))
 go_ret
 exact ⟨rfl, CS.pre hq.out (h1.out.graph hg)⟩
theorem Expr_nil (h : CM w Q K es ops e) (hk : T.kind = 15) (hp : ((e.var).bind fun v => v.2.put 4 v.1 (-1) 0) = some (m, e')) :
  Calls Try.prog 36 #[.pointer (some ⟨Q.c, 0, none⟩), nodeV T v, .int .i64 row] w fun en w' => en = .returned (.int .i64 m) ∧ CS w Q K es ops w' e' := by
 obtain ⟨p, hp1, hp2⟩ := Option.bind_eq_some_iff.1 hp
 have hb := World.alloc_heap_new w (nodeB T v)
 have hq := hid (al_ch w (nodeB T v))
 have h1 := hid (h.quiet hq.out)
 obtain ⟨p0, -, -, -, -⟩ := node_cells hb
 rw [hk] at p0
 obtain ⟨c0, -, -, -, -⟩ := h1.out.cells
 have HO := Ok_any h1.out
 have HV := h1.out.ge.Var hp1
 replace hp2 := hid hp2
 clear hb hk hp hp1 h
 go_enter Try.func36, Try.ntmps36
 go_upto_region 13 with (first | (go_at_call 26; refine HO.mono ?_; clear HO; rintro en w1 ⟨rfl, hw1⟩; obtain rfl := hw1.symm) | (go_at_call 51; refine HV.mono ?_; clear HV; rintro en w2 ⟨rfl, hg⟩))
 obtain ⟨K2, h2, hc2, hm2⟩ := h1.out.graph hg
 clear hg
 have HP := h2.ge.Put hp2.out
 replace h2 := hid h2
 replace hc2 := hid hc2
 replace hm2 := hid hm2
 go_wp2_with (go_at_call 63; refine HP.mono ?_; clear HP; rintro en w3 ⟨rfl, hg⟩)
 go_ret
 exact ⟨rfl, CS.pre hq.out (CS.after hc2.out hm2.out (h2.out.graph hg))⟩
end
end Go.Proofs.Ytejciampbnfbhaa

namespace Go.Proofs.Ytejciampbnfbhaa
open Go.RowKit Ie
theorem findE_app (n : List UInt8) : ∀ a b : List En, findE n (a ++ b) = match findE n b with
  | some y => some y
  | none => findE n a
 | [], b => by
  simp only [List.nil_append, findE]
  cases findE n b <;> rfl
 | x :: a, b => by
  simp only [List.cons_append, findE]
  rw [findE_app n a b]
  cases findE n b <;> rfl
section
variable {w : World} {Q : Cc} {K : Ck} {es : Env} {ops : List Opr} {e e' : E} {T : Sy.Tr} {v : Value} {row m : Int}
theorem Expr_var {f : Nat} (h : CM w Q K es ops e) (hl : es.length < 1000000) (hk : T.kind = 6) (hp : ((findE T.name (es.map (·.1))).bind fun x => use f e x) = some (m, e')) :
  Calls Try.prog 36 #[.pointer (some ⟨Q.c, 0, none⟩), nodeV T v, .int .i64 row] w fun en w' => en = .returned (.int .i64 m) ∧ CS w Q K es ops w' e' := by
 obtain ⟨y, hp1, hp2⟩ := Option.bind_eq_some_iff.1 hp
 have hb := World.alloc_heap_new w (nodeB T v)
 have hq := hid (al_ch w (nodeB T v))
 have h1 := hid (h.quiet hq.out)
 obtain ⟨p0, -, p2, -, -⟩ := node_cells hb
 rw [hk] at p0
 obtain ⟨c0, c1, -, -, -⟩ := h1.out.cells
 obtain ⟨ea, ecap, hev, -, -⟩ := row_slice h1.out.env
 rw [hev] at c1
 replace hev := hid hev
 have HO := Ok_any h1.out
 have hw0 : IntKind.i64.wrap ((es.length : Int) - 1) = (es.length : Int) - 1 := IntWalk.i64_in _ (by omega)
 replace hp1 := hid hp1
 replace hp2 := hid hp2
 clear hk hp h
 go_enter Try.func36, Try.ntmps36
 go_upto_region 16 with (go_at_call 26; refine HO.mono ?_; clear HO; rintro en w1 ⟨rfl, hw1⟩; obtain rfl := hw1.symm)
 generalize hwb : w.alloc (nodeB T v) = wb at *
 go_loopg [9] (es.length + 1) (fun q v9 wr => ∃ i : Nat, v9 = .int .i64 ((i : Int) - 1) ∧ i ≤ es.length ∧ q = i + 1 ∧ Hid (findE T.name ((es.drop i).map (·.1)) = none) ∧ Hid (Ch (fun _ => False) wb wr))
 case atStart => exact ⟨es.length, by first | rfl | simp, by omega, rfl, hid (by simp [findE]), hid (Ch.refl _ _)⟩
 case round =>
  obtain ⟨i, rfl, hi, rfl, hno, hc⟩ := hrel
  have hw := hid (h1.out.quiet hc.out)
  have p2 := cell_keeps hc.out p2
  obtain ⟨c0, c1, -, -, -⟩ := hw.out.cells
  cases i with
  | zero =>
   have h2 := hno.out; rw [List.drop_zero, hp1.out] at h2; cases h2
  | succ i =>
   obtain ⟨x, hx⟩ : ∃ x, es[i]? = some x := ⟨_, List.getElem?_eq_getElem (by omega)⟩; obtain ⟨g, cap, hev2, hil, x0, x1, x2, x3, x4, x5⟩ := hw.out.at hx; rw [hev2] at c1; replace hev2 := hid hev2; have ev : (((i + 1 : Nat) : Int) - 1) = (i : Int) := by omega
   rw [ev]; have i0 : (0 : Int) ≤ (i : Int) := by omega
   have i1 : (i : Int) < (es.length : Int) := by omega
   have hwi : IntKind.i64.wrap ((i : Int) - 1) = (i : Int) - 1 := IntWalk.i64_in _ (by omega)
   have hd : Hid (findE T.name ((es.drop i).map (·.1)) = if x.1.name = T.name then some x.1 else none) := hid (by
    rw [List.drop_eq_getElem_cons hil, (List.getElem?_eq_some_iff.1 hx).2, List.map_cons, findE, hno.out])
   clear ev
   by_cases hn : x.1.name = T.name
   ·have hy : Hid (x.1 = y) := hid (by
     have h2 := hp1.out; rw [← List.take_append_drop i es, List.map_append, findE_app, hd.out, if_pos hn] at h2
     exact Option.some.inj h2)
    have HU := fun q => Use_any (hw.out.quiet ((Ch.refl (fun _ => False) _).dn q)) (List.mem_of_getElem? hx) (hy.out ▸ hp2.out); have HU2 := hid HU; replace hx := hid hx; rw [← hn] at p2; clear HU hn
    go_upto_region 18 with (fail)
    go_quiet (fail)
    have HU := HU2.out nq; clear HU2
    go_wp2_with (go_at_call 64; refine HU.mono ?_; clear HU; rintro en w3 ⟨rfl, hg⟩)
    go_ret
    exact ⟨rfl, CS.pre hq.out (CS.pre (hc.out.dn nq) hg)⟩
   ·have hn2 : (x.1.name == T.name) = false := by simpa using hn
    replace hx := hid hx
    go_upto_region 18 with (fail)
    go_quiet (fail)
    go_wp2_with fail
    go_roundg (i + 1)
    case measure => omega
    case rel => exact ⟨i, rfl, by omega, rfl, hid (by rw [hd.out, if_neg hn]), hid (hc.out.dn _)⟩
end
end Go.Proofs.Ytejciampbnfbhaa

namespace Go.Proofs.Ytejciampbnfbhaa
open Go.RowKit Ie
abbrev Cc.and (Q : Cc) (n : Nat) : Cc := { Q with F := fun k => Q.F k ∨ k = n }
section
variable {w w' : World} {Q : Cc} {K : Ck} {es : Env} {ops : List Opr} {e e' : E} {n : Nat}
theorem CM.and (h : CM w Q K es ops e) (hn : n < w.heap.size) (ho : ¬ K.own Q n) : CM w (Q.and n) K es ops e :=
 ⟨h.blk, h.ge, h.env, h.nc, h.ne, h.nam, h.ops, fun k hk => by
  rcases hk with hk | rfl
  ·exact h.tf k hk
  ·exact ⟨hn, ho⟩⟩
theorem CS.back {es' : Env} (h : CS w (Q.and n) K es' ops w' e') : CS w Q K es' ops w' e' := by
 obtain ⟨K', h1, h2, h3⟩ := h
 exact ⟨K', ⟨h1.blk, h1.ge, h1.env, h1.nc, h1.ne, h1.nam, h1.ops, fun k hk => h1.tf k (.inl hk)⟩, h2, h3⟩
theorem Kids.and {v : Value} {l : List Sy.Tr} (h : Kids w Q.F v l) : Kids w (Q.and n).F v l := h.carry (fun _ _ _ => rfl) (fun _ hq _ => .inl hq)
theorem CM.kids {v : Value} {l : List Sy.Tr} (h : CM w Q K es ops e) (hk : Kids w Q.F v l) (hc : Ch (K.own Q) w w') : Kids w' Q.F v l := hk.carry (fun q hq hl => hc.same q hl (h.tf q hq).2) (fun _ hq _ => hq)
theorem CM.kept {k : Nat} (h : CM w Q K es ops e) (hk : Q.F k) (hc : Ch (K.own Q) w w') : w'.heap[k]? = w.heap[k]? := hc.same k (h.tf k hk).1 (h.tf k hk).2
theorem CM.cell (h : CM w Q K es ops e) {k i : Nat} {v : Value} (hk : Q.F k) (hc : Ch (K.own Q) w w') (hv : w.cell? ⟨k, i, none⟩ = some v) : w'.cell? ⟨k, i, none⟩ = some v := (World.cell?_of_block (a := ⟨k, i, none⟩) (h.kept hk hc)).trans hv
theorem CM.box {T : Sy.Tr} {v : Value} (h : CM w Q K es ops e) : CM (w.alloc (nodeB T v)) (Q.and w.heap.size) K es ops e :=
 (h.quiet (al_ch w _)).and (by simp) (fun hk => by have := h.lt hk; omega)
theorem NamOK.plain {O : Nat → Prop} {x : List UInt8} {t : Int} : NamOK w O (plain x t, .map none, .map none) := ⟨⟨_, rfl⟩, ⟨_, rfl⟩, fun h => by cases h⟩
theorem CM.c0 (h : CM w (Q.and n) K es ops e) : w.cell? ⟨Q.c, 0, none⟩ = some (.pointer (some ⟨Q.b, 0, none⟩)) := h.cells.1
theorem CM.ok0 (h : CM w (Q.and n) K es ops e) : Calls Try.prog 26 #[.pointer (some ⟨Q.c, 0, none⟩)] w fun en w' => en = .returned (.bool true) ∧ w' = w := Ok_any (Q := Q.and n) h
theorem CM.ge0 (h : CM w (Q.and n) K es ops e) : GE w Q.b K.G e := h.ge
theorem CM.node {k o : Nat} {T : Sy.Tr} {v : Value} (h : CM w Q K es ops e) (hk : Q.F k) (hc : Ch (K.own Q) w w') (hn : NodeAt w k o T v) : NodeAt w' k o T v := hn.of_heap (h.kept hk hc)
theorem CS.roll {w0 w w' : World} {Q : Cc} {K0 K : Ck} {es : Env} {ops : List Opr} {e : E} (h : CS w Q K es ops w' e) (hc : Hid (Ch (K0.own Q) w0 w)) (hm : Hid (More w0 (K0.own Q) (K.own Q))) : ∃ K', Hid (CM w' Q K' es ops e) ∧ Hid (Ch (K0.own Q) w0 w') ∧ Hid (More w0 (K0.own Q) (K'.own Q)) := by
 obtain ⟨K', h1, h2, h3⟩ := h
 exact ⟨K', h1, hc.out.two h2 hm.out, hm.out.two h3 hc.out.size⟩
end
end Go.Proofs.Ytejciampbnfbhaa
