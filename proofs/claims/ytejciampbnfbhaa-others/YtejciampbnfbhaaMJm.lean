import Derived.Test.YtejciampbnfbhaaMJf
import Derived.Test.YtejciampbnfbhaaHw
import Derived.Test.YtejciampbnfbhaaMJd
import Derived.Deep.Cut
set_option linter.unusedVariables false
set_option linter.unusedSimpArgs false
set_option maxRecDepth 100000
set_option maxHeartbeats 16000000
namespace Go.Proofs.Ytejciampbnfbhaa
open Go.RowKit Ie
section
variable {w : World} {Q : Cc} {K : Ck} {es : Env} {ops : List Opr} {e e' : E}
theorem Ok_any (h : CM w Q K es ops e) : Calls Try.prog 26 #[.pointer (some ⟨Q.c, 0, none⟩)] w fun en w' => en = .returned (.bool true) ∧ w' = w := by
 obtain ⟨-, -, -, c3, -⟩ := h.cells
 replace h := hid h
 go_enter Try.func26, Try.ntmps26
 go_wp2
 go_ret
 exact ⟨rfl, rfl⟩
theorem Same_ck {f : Nat} {m n : Int} (a : Int) (h : CM w Q K es ops e) (hs : samE f e m n = some e') : Calls Try.prog 53 #[.pointer (some ⟨Q.c, 0, none⟩), .int .i64 m, .int .i64 n, .int .i64 a] w fun en w' => en = .returned (.tuple #[]) ∧ CS w Q K es ops w' e' := by
 unfold samE at hs
 obtain ⟨p, hp, hs2⟩ := Option.bind_eq_some_iff.1 hs
 cases hp1 : p.1 with
 | false => rw [hp1] at hs2; cases hs2
 | true =>
  rw [hp1, if_pos rfl] at hs2
  obtain ⟨q, hq, hs3⟩ := Option.bind_eq_some_iff.1 hs2
  cases hq1 : q.1 with
  | true => rw [hq1] at hs3; cases hs3
  | false =>
   rw [hq1, if_neg (by decide)] at hs3; obtain ⟨r, hr, hs4⟩ := Option.bind_eq_some_iff.1 hs3
   cases hr1 : r.1 with
   | true => rw [hr1] at hs4; cases hs4
   | false =>
    rw [hr1, if_neg (by decide)] at hs4; obtain rfl := Option.some.inj hs4; clear hs hs2 hs3 hs4; have HO := Ok_any h; have HS := h.ge.Same hp; rw [hp1] at HS; obtain ⟨c0, -, -, -, -⟩ := h.cells; replace h := hid h
    go_enter Try.func53, Try.ntmps53
    go_upto_region 2 with (first | (go_at_call 26; refine HO.mono ?_; clear HO; rintro en w1 ⟨rfl, hw1⟩; obtain rfl := hw1.symm) | (go_at_call 78; refine HS.mono ?_; clear HS; rintro en w2 ⟨rfl, g2⟩))
    obtain ⟨K2, h2, hc2, hm2⟩ := h.out.graph g2; clear g2 c0; obtain ⟨c0, -, -, -, -⟩ := h2.cells; have HR := h2.ge.Round hq; rw [hq1] at HR; replace h2 := hid h2; replace hc2 := hid hc2; replace hm2 := hid hm2; have HR2 := fun W (hW : Ch (fun _ => False) w2 W) => (h2.out.quiet hW).ge.Round hr; rw [hr1] at HR2; replace HR2 := hid HR2
    go_wp2_with (first | (go_at_call 79; refine HR.mono ?_; clear HR; rintro en w3 ⟨rfl, hq3⟩; have HR3 := HR2.out w3 hq3; clear HR2; have c0 := (h2.out.quiet hq3).cells.1; replace hq3 := hid hq3) | (go_at_call 79; refine HR3.mono ?_; clear HR3; rintro en w4 ⟨rfl, hq4⟩))
    (first | go_end0 | ((try simp only [Exit.inBlock, Exit.then]); refine bodyPost_ret (results_none rfl _ _ _) rfl ?_))
    exact ⟨by first | rfl | simp, CS.after hc2.out hm2.out (CS.refl ((h2.out.quiet hq3.out).quiet hq4) |> fun x => x |> fun ⟨K', a, b, c⟩ => ⟨K', a, (hq3.out.trans hq4 (fun _ h => .inl h)).mono (fun _ h => h.elim), fun k hk => (c k hk).imp id (fun h => Nat.le_trans (hq3.out.trans hq4 (fun _ h => .inl h)).size h)⟩)⟩
theorem Row_ck {f : Nat} {m n : Int} (a : Int) (h : CM w Q K es ops e) (hs : rowE f e m n = some e') : Calls Try.prog 85 #[.pointer (some ⟨Q.c, 0, none⟩), .int .i64 m, .int .i64 n, .int .i64 a] w fun en w' => en = .returned (.tuple #[]) ∧ CS w Q K es ops w' e' := by
 unfold rowE at hs
 obtain ⟨p, hp, hs2⟩ := Option.bind_eq_some_iff.1 hs
 cases hp1 : p.1 with
 | false => rw [hp1] at hs2; cases hs2
 | true =>
  rw [hp1, if_pos rfl] at hs2
  obtain rfl := Option.some.inj hs2
  clear hs hs2
  have HO := Ok_any h
  have HS := h.ge.SameRow hp
  rw [hp1] at HS
  obtain ⟨c0, -, -, -, -⟩ := h.cells
  replace h := hid h
  go_enter Try.func85, Try.ntmps85
  go_wp2_with (first | (go_at_call 26; refine HO.mono ?_; clear HO; rintro en w1 ⟨rfl, hw1⟩; obtain rfl := hw1.symm) | (go_at_call 90; refine HS.mono ?_; clear HS; rintro en w2 ⟨rfl, g2⟩))
  (first | go_end0 | ((try simp only [Exit.inBlock, Exit.then]); refine bodyPost_ret (results_none rfl _ _ _) rfl ?_))
  exact ⟨by first | rfl | simp, h.out.graph g2⟩
theorem Big_ck {f : Nat} {n : Int} (a : Int) (h : CM w Q K es ops e) (hs : bigE f e n = some ()) : Calls Try.prog 29 #[.pointer (some ⟨Q.c, 0, none⟩), .int .i64 n, .int .i64 a] w fun en w' => en = .returned (.tuple #[]) ∧ Ch (fun _ => False) w w' := by
 unfold bigE at hs
 obtain ⟨p, hp, hs2⟩ := Option.bind_eq_some_iff.1 hs
 have hle : p.1 ≤ 300 := Classical.byContradiction fun q => by rw [if_neg q] at hs2; cases hs2
 clear hs hs2
 have HO := Ok_any h
 have HS := h.ge.Parts hp
 obtain ⟨c0, -, -, -, -⟩ := h.cells
 replace h := hid h
 go_enter Try.func29, Try.ntmps29
 go_wp2_with (first | (go_at_call 26; refine HO.mono ?_; clear HO; rintro en w1 ⟨rfl, hw1⟩; obtain rfl := hw1.symm) | (go_at_call 54; refine HS.mono ?_; clear HS; rintro en w2 ⟨rfl, g2⟩))
 (first | go_end0 | ((try simp only [Exit.inBlock, Exit.then]); refine bodyPost_ret (results_none rfl _ _ _) rfl ?_))
 exact ⟨by first | rfl | simp, g2⟩
end
end Go.Proofs.Ytejciampbnfbhaa

namespace Go.Proofs.Ytejciampbnfbhaa
open Go.RowKit Ie
theorem nmC_one {x : En × Value × Value} (h : (∃ o, x.2.1 = .map o) ∧ ∃ o, x.2.2 = .map o) : ∀ u ∈ nmC x, u.oneCell' = true := by
 obtain ⟨⟨o1, h1⟩, ⟨o2, h2⟩⟩ := h
 intro u hu
 simp only [nmC, List.mem_cons, List.not_mem_nil, or_false] at hu
 rcases hu with rfl | rfl | rfl | rfl | rfl | rfl <;> first | rfl | (rw [h1]; rfl) | (rw [h2]; rfl)
section
variable {w : World} {Q : Cc} {K : Ck} {es : Env} {ops : List Opr} {e e' : E}
theorem With_any {x : En × Value × Value} (h : CM w Q K es ops e) (hl : es.length < 1000000) (hx : NamOK w (K.own Q) x) : Calls Try.prog 31 #[.pointer (some ⟨Q.c, 0, none⟩), nmV x] w fun en w' => en = .returned (.tuple #[]) ∧ CS w Q K (es ++ [x]) ops w' e := by
 have hq1 := hid (al_ch w (xnB x))
 have h1 := hid (h.quiet hq1.out)
 have hb1 := hid (World.alloc_heap_new w (xnB x))
 have hmx := hid (And.intro hx.m1 hx.m2)
 replace hx := hid (hx.ch (hq1.out.mono (fun _ h => h.elim)) (fun _ h => .inl h))
 replace h := hid h
 go_enter Try.func31, Try.ntmps31
 go_upto_region 1 with (fail)
 generalize w.alloc (xnB x) = w1 at *
 obtain ⟨c0, c1, -, -, -⟩ := h1.out.cells
 have hcl1 := h1.out.lt (.inr (.inl rfl))
 have cf := h1.out.frozen
 obtain ⟨q0, q1, q2, q3, q4, q5⟩ := box_cells hb1.out
 obtain ⟨ea, ecap, hev, -, -⟩ := row_slice h1.out.env
 have hcn : Hid ((Value.slice ea es.length ecap).ownBlock ≠ some Q.c) := hid fun e => (h1.out.ne Q.c (hev ▸ e)).2 rfl
 have hr := hid (h1.out.env)
 rw [hev] at c1 hr
 have hgr0 : Hid (K.ev = .slice ea es.length ecap) := hev
 clear hev
 refine wp_region_held_drew (S := (fun _ => True)) (by kernel_rfl) (by first | trivial | ((try dsimp only); go_keep)) (fun hHeld => ?_)
 refine tk 0 rfl ?_
 refine tk 1 rfl ?_
 refine tk 2 rfl ?_
 refine tk 3 rfl ?_
 refine rd2 4 5 rfl (fun K hK => ?_) rfl (fun K hK => ?_)
 ·go_simp
  clear hHeld
  refine gn hK (fun hHeld => ?_)
  clear hK K
  refine rd1 5 rfl (fun K hK => ?_)
  go_simp
  clear hHeld
  refine gn hK (fun hHeld => ?_)
  clear hK K
  refine rd1 6 rfl (fun K hK => ?_)
  go_simp
  clear hHeld
  refine gn hK (fun hHeld => ?_)
  clear hK K
  refine rd1 7 rfl (fun K hK => ?_)
  have hr2 := hid (ownsRow_keep hr.out (w' := w1.drew.alloc (xnB x)) (fun k hk => (Below.heap_alloc w1.drew _ k (by have := ownsRow_lt hr.out hk; simpa using this))))
  refine step_append rfl (.tmp 8) (.tmp 10) 63 rfl 73 _ 6 56 Try.underlying63 Try.infoNam rfl (by decide) (.slice ea es.length ecap) es.length (nams es) rfl hr2.out ⟨w1.drew.heap.size, 0, none⟩ 1 1 (nmC x) rfl rfl (new_six w1.drew _ _ _ _ _ _ 73) (nmC_one hmx.out) (by unfold maxLen; omega) (by omega) ?_
  intro v' w2 hrow hgr hblk
  obtain ⟨ug, ucap, rfl⟩ := ownsRow_succ hrow
  have hcc : w2.heap[Q.c]? = w1.heap[Q.c]? := (hgr.block _ (by simp; omega) (fun e => hcn.out e.symm)).trans (Below.heap_alloc w1.drew _ _ (by simpa using hcl1))
  replace hrow := hid hrow
  replace hgr := hid hgr
  replace hblk := hid hblk
  have cf2 : ∀ i, w2.frozen? ⟨Q.c, i, none⟩ = false := fun i => (World.frozen?_of_block (a := ⟨Q.c, i, none⟩) hcc).trans (cf i)
  have c12 : w2.cell? ⟨Q.c, 1, none⟩ = some (.slice ea es.length ecap) := (World.cell?_of_block (a := ⟨Q.c, 1, none⟩) hcc).trans c1
  clear hcc
  clear hHeld
  refine gn hK (fun hHeld => ?_)
  clear hK K
  refine tk 8 rfl ?_
  refine tk 9 rfl ?_
  refine rd1 10 rfl (fun K hK => ?_)
  go_simp
  clear hHeld
  refine gn hK (fun hHeld => ?_)
  clear hK K
  refine wpAnyH_done (by kernel_rfl) ?_ _
  clear hHeld
  have hCS := hid (CM.join h1.out ((Ch.drew (fun _ => False) w1).al (xnB x)) hx.out hrow.out (hgr0.out ▸ hgr.out) (hgr0.out ▸ hblk.out))
  go_wp2_with fail
  (first | go_end0 | ((try simp only [Exit.inBlock, Exit.then]); refine bodyPost_ret (results_none rfl _ _ _) rfl ?_))
  exact ⟨by first | rfl | simp, CS.after (hq1.out.mono (fun _ h => h.elim)) (fun _ h => .inl h) hCS.out⟩
 ·go_simp
  clear hHeld
  refine gn hK (fun hHeld => ?_)
  clear hK K
  refine rd2 4 6 rfl (fun K hK => ?_) rfl (fun K hK => ?_)
  ·go_simp
   clear hHeld; refine gn hK (fun hHeld => ?_); clear hK K; refine rd1 6 rfl (fun K hK => ?_)
   go_simp
   clear hHeld; refine gn hK (fun hHeld => ?_); clear hK K; refine rd1 7 rfl (fun K hK => ?_); have hr2 := hid (ownsRow_keep hr.out (w' := w1.drew.alloc (xnB x)) (fun k hk => (Below.heap_alloc w1.drew _ k (by have := ownsRow_lt hr.out hk; simpa using this)))); refine step_append rfl (.tmp 8) (.tmp 10) 63 rfl 73 _ 6 56 Try.underlying63 Try.infoNam rfl (by decide) (.slice ea es.length ecap) es.length (nams es) rfl hr2.out ⟨w1.drew.heap.size, 0, none⟩ 1 1 (nmC x) rfl rfl (new_six w1.drew _ _ _ _ _ _ 73) (nmC_one hmx.out) (by unfold maxLen; omega) (by omega) ?_; intro v' w2 hrow hgr hblk; obtain ⟨ug, ucap, rfl⟩ := ownsRow_succ hrow; have hcc : w2.heap[Q.c]? = w1.heap[Q.c]? := (hgr.block _ (by simp; omega) (fun e => hcn.out e.symm)).trans (Below.heap_alloc w1.drew _ _ (by simpa using hcl1)); replace hrow := hid hrow; replace hgr := hid hgr; replace hblk := hid hblk; have cf2 : ∀ i, w2.frozen? ⟨Q.c, i, none⟩ = false := fun i => (World.frozen?_of_block (a := ⟨Q.c, i, none⟩) hcc).trans (cf i); have c12 : w2.cell? ⟨Q.c, 1, none⟩ = some (.slice ea es.length ecap) := (World.cell?_of_block (a := ⟨Q.c, 1, none⟩) hcc).trans c1; clear hcc; clear hHeld; refine gn hK (fun hHeld => ?_); clear hK K; refine tk 8 rfl ?_; refine tk 9 rfl ?_; refine rd1 10 rfl (fun K hK => ?_)
   go_simp
   clear hHeld; refine gn hK (fun hHeld => ?_); clear hK K; refine wpAnyH_done (by kernel_rfl) ?_ _; clear hHeld; have hCS := hid (CM.join h1.out ((Ch.drew (fun _ => False) w1).al (xnB x)) hx.out hrow.out (hgr0.out ▸ hgr.out) (hgr0.out ▸ hblk.out))
   go_wp2_with fail
   (first | go_end0 | ((try simp only [Exit.inBlock, Exit.then]); refine bodyPost_ret (results_none rfl _ _ _) rfl ?_))
   exact ⟨by first | rfl | simp, CS.after (hq1.out.mono (fun _ h => h.elim)) (fun _ h => .inl h) hCS.out⟩
  ·go_simp
   clear hHeld; refine gn hK (fun hHeld => ?_); clear hK K; refine rd1 4 rfl (fun K hK => ?_)
   go_simp
   clear hHeld; refine gn hK (fun hHeld => ?_); clear hK K; refine rd1 7 rfl (fun K hK => ?_); have hr2 := hid (ownsRow_keep hr.out (w' := w1.drew.alloc (xnB x)) (fun k hk => (Below.heap_alloc w1.drew _ k (by have := ownsRow_lt hr.out hk; simpa using this)))); refine step_append rfl (.tmp 8) (.tmp 10) 63 rfl 73 _ 6 56 Try.underlying63 Try.infoNam rfl (by decide) (.slice ea es.length ecap) es.length (nams es) rfl hr2.out ⟨w1.drew.heap.size, 0, none⟩ 1 1 (nmC x) rfl rfl (new_six w1.drew _ _ _ _ _ _ 73) (nmC_one hmx.out) (by unfold maxLen; omega) (by omega) ?_; intro v' w2 hrow hgr hblk; obtain ⟨ug, ucap, rfl⟩ := ownsRow_succ hrow; have hcc : w2.heap[Q.c]? = w1.heap[Q.c]? := (hgr.block _ (by simp; omega) (fun e => hcn.out e.symm)).trans (Below.heap_alloc w1.drew _ _ (by simpa using hcl1)); replace hrow := hid hrow; replace hgr := hid hgr; replace hblk := hid hblk; have cf2 : ∀ i, w2.frozen? ⟨Q.c, i, none⟩ = false := fun i => (World.frozen?_of_block (a := ⟨Q.c, i, none⟩) hcc).trans (cf i); have c12 : w2.cell? ⟨Q.c, 1, none⟩ = some (.slice ea es.length ecap) := (World.cell?_of_block (a := ⟨Q.c, 1, none⟩) hcc).trans c1; clear hcc; clear hHeld; refine gn hK (fun hHeld => ?_); clear hK K; refine tk 8 rfl ?_; refine tk 9 rfl ?_; refine rd1 10 rfl (fun K hK => ?_)
   go_simp
   clear hHeld; refine gn hK (fun hHeld => ?_); clear hK K; refine wpAnyH_done (by kernel_rfl) ?_ _; clear hHeld; have hCS := hid (CM.join h1.out ((Ch.drew (fun _ => False) w1).al (xnB x)) hx.out hrow.out (hgr0.out ▸ hgr.out) (hgr0.out ▸ hblk.out))
   go_wp2_with fail
   (first | go_end0 | ((try simp only [Exit.inBlock, Exit.then]); refine bodyPost_ret (results_none rfl _ _ _) rfl ?_))
   exact ⟨by first | rfl | simp, CS.after (hq1.out.mono (fun _ h => h.elim)) (fun _ h => .inl h) hCS.out⟩
end
end Go.Proofs.Ytejciampbnfbhaa

namespace Go.Proofs.Ytejciampbnfbhaa
open Go.RowKit Ie
section
variable {w : World} {Q : Cc} {K : Ck} {es xs : Env} {ops : List Opr} {e e' : E}
theorem Out_any (h : CM w Q K (es ++ xs) ops e) (hl : (es ++ xs).length < 1000000) (hx : xs ≠ []) : Calls Try.prog 52 #[.pointer (some ⟨Q.c, 0, none⟩), .int .i64 (xs.length : Nat)] w fun en w' => en = .returned (.tuple #[]) ∧ CS w Q K es ops w' e := by
 have hxl : 0 < xs.length := List.length_pos_iff.2 hx
 have hL : (es ++ xs).length = es.length + xs.length := List.length_append
 obtain ⟨ea, ecap, hev, he0, hec⟩ := row_slice h.env
 rw [hL] at hev he0 hec hl
 obtain ⟨c0, c1, -, -, -⟩ := h.cells
 have cf := h.frozen
 rcases he0 with he0 | ⟨g, rfl⟩
 ·omega
 rw [hev] at c1
 have hw0 : IntKind.i64.wrap (((es.length + xs.length : Nat) : Int) - (xs.length : Int)) = (es.length : Int) := by rw [show ((es.length + xs.length : Nat) : Int) - (xs.length : Int) = (es.length : Int) by omega]; exact IntWalk.i64_in _ (by omega)
 have hle : es.length ≤ es.length + xs.length := Nat.le_add_right _ _
 generalize es.length + xs.length = L at *
 have i0 : (0 : Int) ≤ (es.length : Int) := by omega
 have i1 : (es.length : Int) ≤ (ecap : Int) := by omega
 have i2 : es.length ≤ ecap := by omega
 replace hev := hid hev
 replace h := hid h
 clear hL
 go_enter Try.func52, Try.ntmps52
 have hD := hid (fun q => CM.drop (h.out.quiet ((Ch.refl (fun _ => False) w).dn q)) hev.out)
 refine wp_region_split 15 1 (by kernel_rfl) rfl (by kernel_rfl) (by kernel_rfl) (by kernel_rfl) ?_
 simp only [List.take_succ_cons, List.take_zero]
 repeat (gi_big_quiet_step (fail))
 refine wpQuietIn_nil ?_
 intro _ hw'
 obtain ⟨nq1, hw''⟩ := hw'
 subst hw''
 refine wpAnyIn_ready (rs := [15]) (by kernel_rfl) (by simp) (AllReadyIn.cons rfl (fun K hK => ?_) AllReadyIn.nil)
 go_simp
 refine hK _ _ ?_
 clear hK K
 refine wpAnyIn_done (by kernel_rfl) ?_ _
 go_wp2_with fail
 (first | go_end0 | ((try simp only [Exit.inBlock, Exit.then]); refine bodyPost_ret (results_none rfl _ _ _) rfl ?_))
 exact ⟨by first | rfl | simp, CS.after (((Ch.refl (fun _ => False) w).dn nq1).mono (fun _ h => h.elim)) (fun _ h => .inl h) (hD.out nq1)⟩
end
end Go.Proofs.Ytejciampbnfbhaa

namespace Go.Proofs.Ytejciampbnfbhaa
open Go.RowKit Ie
structure VN (w : World) (c b : Nat) (G : Gg) (e : E) : Prop where
 vm : VM w c b G e
 nc : ¬ G.own b c
theorem VN.lt {w : World} {c b : Nat} {G : Gg} {e : E} (h : VN w c b G e) : c < w.heap.size := by
 obtain ⟨cs, fz, h1, _⟩ := h.vm.c0
 exact (Array.getElem?_eq_some_iff.1 h1).1
theorem VN.quiet {w w' : World} {c b : Nat} {G : Gg} {e : E} (h : VN w c b G e) (hc : Ch (fun _ => False) w w') : VN w' c b G e := ⟨h.vm.quiet hc, h.nc⟩
theorem VN.graph {w w' : World} {c b : Nat} {G : Gg} {e e' : E} (h : VN w c b G e) (hg : GT w b G w' e') : ∃ G', VN w' c b G' e' ∧ Ch (G.own b) w w' ∧ More w (G.own b) (G'.own b) := by
 obtain ⟨G', h1, h2, h3⟩ := hg
 obtain ⟨cs, fz, h4, h5⟩ := h.vm.c0
 exact ⟨G', ⟨⟨h1, cs, fz, (h2.same c h.lt h.nc).trans h4, (h2.cell (p := ⟨c, 0, none⟩) h.lt h.nc).trans h5⟩, h3.not h.nc h.lt⟩, h2, h3⟩
def VT (w : World) (c b : Nat) (G : Gg) (w' : World) (e' : E) : Prop := ∃ G', VN w' c b G' e' ∧ Ch (G.own b) w w' ∧ More w (G.own b) (G'.own b)
theorem VT.after {w w1 w2 : World} {c b : Nat} {G G1 : Gg} {e : E} (hc : Ch (G.own b) w w1) (hm : More w (G.own b) (G1.own b)) (h : VT w1 c b G1 w2 e) : VT w c b G w2 e := by
 obtain ⟨G2, h1, h2, h3⟩ := h
 exact ⟨G2, h1, hc.two h2 hm, hm.two h3 hc.size⟩
theorem VT.of {w w' : World} {c b : Nat} {G : Gg} {e e' : E} (h : VN w c b G e) (g : GT w b G w' e') : VT w c b G w' e' := h.graph g
theorem VT.gt {w w' : World} {c b : Nat} {G : Gg} {e' : E} (h : VT w c b G w' e') : GT w b G w' e' := by
 obtain ⟨G', h1, h2, h3⟩ := h
 exact ⟨G', h1.vm.ge, h2, h3⟩
def OpenedOK (c b f k : Nat) : Prop := ∀ {w : World} {G : Gg} {e e' : E} {n m : Int}, VN w c b G e → Ie.opened f k e n = some (m, e') →
 Calls Try.prog 84 #[.pointer (some ⟨c, 0, none⟩), .int .i64 n] w fun en w' => en = .returned (.int .i64 m) ∧ VT w c b G w' e'
theorem Opened_step {c b f k : Nat} (ih : OpenedOK c b f k) : OpenedOK c b f (k + 1) := by
 intro w G e e' n m hv hr
 unfold Ie.opened at hr
 obtain ⟨n', fn, hr1⟩ := Option.bind_eq_some_iff.1 hr
 obtain ⟨x, hx, hr2⟩ := Option.bind_eq_some_iff.1 hr1
 clear hr hr1
 have H1 := hv.vm.ge.Find fn
 clear fn
 obtain ⟨-, -, -, c0⟩ := hv.vm.c0
 obtain ⟨ni, rfl, hni, ⟨kg, kc, k1, k2⟩, -, ⟨bg, bc, b1, b2⟩, -⟩ := hv.vm.ge.at hx
 obtain ⟨g0, -, g2, -⟩ := hv.vm.ge.gcells
 rw [k1] at g0
 rw [b1] at g2
 clear k1 b1
 replace ih := @hid _ @ih
 replace hv := hid hv
 have hni2 : (ni : Int) < (e.n : Int) := by omega
 by_cases h6 : x.k = 6
 ·rw [if_pos h6] at hr2
  obtain ⟨B, hB, hr3⟩ := Option.bind_eq_some_iff.1 hr2
  obtain ⟨x2, hx2, hr4⟩ := Option.bind_eq_some_iff.1 hr3
  obtain ⟨W, hW, hr5⟩ := Option.bind_eq_some_iff.1 hr4
  obtain ⟨V, hV, hr6⟩ := Option.bind_eq_some_iff.1 hr5
  obtain ⟨Rr, hR, hr7⟩ := Option.bind_eq_some_iff.1 hr6
  obtain ⟨x3, hx3, hP⟩ := Option.bind_eq_some_iff.1 hr7
  clear hr2 hr3 hr4 hr5 hr6 hr7
  rw [h6] at k2
  have HB := ih.out hv.out hB
  replace hV := hid hV
  go_enter Try.func84, Try.ntmps84
  go_upto_region 5 with (first | (go_at_call 57; refine H1.mono ?_; clear H1; rintro en w1 ⟨rfl, hw1⟩; obtain rfl := hw1.symm) | (go_at_call 84; refine HB.mono ?_; clear HB; rintro en w2 ⟨rfl, G2, hv2, hc2, hm2⟩; replace hv2 := hid hv2; replace hc2 := hid hc2; replace hm2 := hid hm2))
  clear c0 g0 g2 k2 b2 hx
  obtain ⟨-, -, -, c0⟩ := hv2.out.vm.c0
  obtain ⟨nj, e1, hnj, -, -, -, rg, rc, r1, r2⟩ := hv2.out.vm.ge.at hx2
  obtain rfl : ni = nj := by omega
  obtain ⟨-, -, -, g3⟩ := hv2.out.vm.ge.gcells
  rw [r1] at g3
  clear r1 e1 hx2
  have hni3 : (ni : Int) < (B.2.n : Int) := by omega
  have hS0 : (fun w' => w'.cell? ⟨c, 0, none⟩ = some (.pointer (some ⟨b, 0, none⟩)) ∧ w'.cell? ⟨b, 3, none⟩ = some (.slice (some ⟨rg, 0, none⟩) B.2.n rc) ∧ w'.cell? ⟨rg, ni, none⟩ = some (.int .i64 x2.r)) w2.drew := ⟨cell_keeps (Ch.drew (fun _ => False) w2) c0, cell_keeps (Ch.drew (fun _ => False) w2) g3, cell_keeps (Ch.drew (fun _ => False) w2) r2⟩
  refine wp_region_held_drew (S := (fun w' => w'.cell? ⟨c, 0, none⟩ = some (.pointer (some ⟨b, 0, none⟩)) ∧ w'.cell? ⟨b, 3, none⟩ = some (.slice (some ⟨rg, 0, none⟩) B.2.n rc) ∧ w'.cell? ⟨rg, ni, none⟩ = some (.int .i64 x2.r))) (by kernel_rfl) (by first | trivial | ((try dsimp only); go_keep)) (fun hHeld => ?_)
  refine tk 0 rfl ?_
  refine tk 1 rfl ?_
  refine tk 2 rfl ?_
  refine tk 3 rfl ?_
  refine tk 4 rfl ?_
  refine tk 5 rfl ?_
  refine tk 6 rfl ?_
  refine tk 7 rfl ?_
  refine tk 8 rfl ?_
  refine tk 9 rfl ?_
  refine tk 10 rfl ?_
  refine tk 11 rfl ?_
  refine tk 12 rfl ?_
  refine tk 13 rfl ?_
  refine rd1 14 rfl (fun K hK => ?_)
  go_simp
  refine ((hv2.out.vm.ge.quiet (Ch.refl _ _).dr).Whole hW).mono ?_
  rintro e' w4 ⟨u, rfl, hF⟩
  have hS5 : (fun w' => w'.cell? ⟨c, 0, none⟩ = some (.pointer (some ⟨b, 0, none⟩)) ∧ w'.cell? ⟨b, 3, none⟩ = some (.slice (some ⟨rg, 0, none⟩) B.2.n rc) ∧ w'.cell? ⟨rg, ni, none⟩ = some (.int .i64 x2.r)) w4 := ⟨cell_keeps hF.2.1 hS0.1, cell_keeps hF.2.1 hS0.2.1, cell_keeps hF.2.1 hS0.2.2⟩
  obtain ⟨ua, un, uc, rfl⟩ := fresh_slice hF
  replace hF := hid hF
  dsimp only
  clear hHeld
  refine gn hK (fun hHeld => ?_)
  clear hK K
  refine tk 15 rfl ?_
  refine tk 16 rfl ?_
  refine tk 17 rfl ?_
  refine tk 18 rfl ?_
  refine tk 19 rfl ?_
  refine wpAnyH_done (by kernel_rfl) ?_ _
  clear hHeld
  have hq4 := hid ((Ch.refl (fun _ => False) w2).dr.trans hF.out.2.1 (fun _ h => h.elim))
  have hv4 := hid (hv2.out.quiet hq4.out)
  have hc4 := hid (hc2.out.trans hq4.out (fun _ h => h.elim))
  have hFs := hF.out.sv
  have hFo := hid hF.out.2.2
  replace hFs := hid hFs
  clear c0 g3 r2 hS0 hS5
  obtain ⟨-, -, -, c0⟩ := hv4.out.vm.c0
  go_upto_if 58 with (fail)
  go_cut [7] from 9 (fun s7 w5 => s7 = .int .i64 V.1 ∧ ∃ G5, Hid (VN w5 c b G5 V.2 ∧ Ch (G.own b) w w5 ∧ More w (G.own b) (G5.own b) ∧ SV w5 (.slice ua un uc) W.1 ∧ ∀ q, (Value.slice ua un uc).ownBlock = some q → ¬ G5.own b q))
  case first =>
   have hfo : Hid (∀ q, (Value.slice ua un uc).ownBlock = some q → ¬ G2.own b q) := hid fun q hq ho => by
    have h1 := hFo.out q hq; obtain ⟨d, -, h2⟩ := hv2.out.vm.ge; have h3 := h2.gm.lt ho; have h4 := (Ch.refl (fun _ => False) w2).dr.size; omega
   by_cases h0 : W.2 = 0
   ·have hV2 := hV.out
    rw [if_pos h0] at hV2; have HO := hv4.out.vm.ge.Open hV2; replace h0 := h0; rw [h0]
    go_wp2_with (go_at_call 50; refine HO.mono ?_; clear HO; rintro en w5 ⟨rfl, g5⟩)
    go_meet
    case rel =>
     obtain ⟨G5, h1, h2, h3⟩ := hv4.out.graph g5; exact ⟨rfl, G5, h1, hc4.out.two h2 hm2.out, hm2.out.two h3 hc4.out.size, hFs.out.keep h2 hfo.out, apart_more h3 hFs.out hfo.out⟩
   ·have hV2 := hV.out
    rw [if_neg h0] at hV2; obtain rfl := Option.some.inj hV2
    go_wp2
    go_meet
    case rel => exact ⟨rfl, G2, hv4.out, hc4.out, hm2.out, hFs.out, hfo.out⟩
  case rest =>
   obtain ⟨rfl, G5, hcut⟩ := hcut; obtain ⟨-, -, -, c5⟩ := hcut.out.1.vm.c0; have HR := hcut.out.1.vm.ge.PutRow hcut.out.2.2.2.1 hcut.out.2.2.2.2 hR; clear c0
   go_upto_region 9 with (go_at_call 35; refine HR.mono ?_; clear HR; rintro en w6 ⟨rfl, g6⟩)
   obtain ⟨G6, hv6, hc6, hm6⟩ := hcut.out.1.graph g6; have hcw := hid (hcut.out.2.1.two hc6 hcut.out.2.2.1); have hmw := hid (hcut.out.2.2.1.two hm6 hcut.out.2.1.size); clear hc6 hm6 g6 c5; obtain ⟨-, -, -, c0⟩ := hv6.vm.c0; obtain ⟨nj, e1, hnj, -, ⟨ag, ac, a1, a2⟩, -, -⟩ := hv6.vm.ge.at hx3; obtain rfl : ni = nj := by omega
   obtain ⟨-, g1, -, -⟩ := hv6.vm.ge.gcells; rw [a1] at g1; clear a1 e1; have hni4 : (ni : Int) < (Rr.2.n : Int) := by omega
   replace hv6 := hid hv6; have HP : ∀ q, Calls Try.prog 63 #[.pointer (some ⟨b, 0, none⟩), .int .i64 6, .int .i64 x3.a, .int .i64 B.1, .int .i64 Rr.1] (w6.drewN q) fun en w' => en = .returned (.int .i64 m) ∧ VT (w6.drewN q) c b G6 w' e' := fun q => ((hv6.out.quiet ((Ch.refl _ _).dn q)).vm.ge.Put hP).mono fun en w' h => ⟨h.1, VT.of (hv6.out.quiet ((Ch.refl _ _).dn q)) h.2⟩; replace HP := hid HP; refine wp_region_split 16 2 (by kernel_rfl) rfl (by kernel_rfl) (by kernel_rfl) (by kernel_rfl) ?_; simp only [List.take_succ_cons, List.take_zero]
   repeat (gi_big_quiet_step (fail))
   refine wpQuietIn_nil ?_; intro _ hw'; obtain ⟨nq1, hw''⟩ := hw'; subst hw''; refine wpAnyIn_ready (rs := [16]) (by kernel_rfl) (by simp) (AllReadyIn.cons rfl (fun K hK => ?_) AllReadyIn.nil)
   go_simp
   refine ⟨by first | trivial | rfl, rfl, callsIn_wide.2 ((HP.out _).mono ?_)⟩; rintro en w7 ⟨rfl, h7⟩
   dsimp only
   refine hK _ _ ?_; clear hK K; refine wpAnyIn_ready (rs := [17]) (by kernel_rfl) (by simp) (AllReadyIn.cons rfl (fun K hK => ?_) AllReadyIn.nil)
   go_simp
   refine hK _ _ ?_; clear hK K; refine wpAnyIn_done (by kernel_rfl) ?_ _
   go_wp2_with fail
   go_ret
   exact ⟨rfl, VT.after hcw.out hmw.out (VT.after ((Ch.refl _ _).dn _) (fun _ h => .inl h) h7)⟩
 ·rw [if_neg h6] at hr2
  obtain ⟨rfl, rfl⟩ := Prod.mk.inj (Option.some.inj hr2)
  go_enter Try.func84, Try.ntmps84
  go_wp2_with (go_at_call 57; refine H1.mono ?_; clear H1; rintro en w1 ⟨rfl, hw1⟩; obtain rfl := hw1.symm)
  go_ret
  exact ⟨rfl, G, hv.out, Ch.refl _ _, fun _ h => .inl h⟩
theorem Opened_any (c b f : Nat) : ∀ k, OpenedOK c b f k
 | 0 => fun _ h => by cases h
 | k + 1 => Opened_step (Opened_any c b f k)
end Go.Proofs.Ytejciampbnfbhaa
