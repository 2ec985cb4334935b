/-
  The program's Node: a type that is no variable.
-/
import Derived.Test.YtcogpcalghfghaaMVj
set_option linter.unusedVariables false
set_option linter.unusedSimpArgs false
namespace Go.Proofs.Ytcogpcalghfghaa
open Go.RowKit
open Un (Bag Nm Gr St put rvOf bagL)
variable {F : Nat → Prop}

/-- The node that is being made, and what is known besides. -/
structure NdW (w0 w : World) (S : St) (X : Gx) (F : Nat → Prop) (mT mR nb N : Nat) (t : Ty.P) (v3 : Value) (rp : Option Nat) (r : Option Nat) (i : Nat) (va : Value) (is : List Nat) (Si : St) (Xi : Gx) (Fi : Nat → Prop) (wr : World) : Prop where
  vm : VM wr Si Xi Fi mT mR
  sub : ∀ k, F k → Fi k
  fn : Fi nb
  row : wr.ownsRow 0 61 1 va i (is.map fun j => bP (Xi.pi j))
  fv : ∀ k, va.ownBlock = some k → Fi k ∧ w.heap.size ≤ k
  nd : wr.heap[nb]? = some (.cells #[.int .i64 (t.kind : Nat), va, v3, oP rp, .pointer none, .int .i64 0, .int .i64 0] 78 (0, 0))
  bag : BagT wr F v3 (bagL t.ops)
  ps : Pst w0 wr mT mR
  bx : wr.heap[N]? = some (.cells #[.map (some mT), .map (some mR)] 48 (0, 0))
  xa : XA w S.G.n Si.G.n X Xi
  ch : Ch (Mp mT mR) w wr
  rv : RestV Xi r rp
  pw : w0.heap.size ≤ w.heap.size
theorem NdW.next {w0 w : World} {S : St} {X : Gx} {mT mR nb N : Nat} {t ti : Ty.P} {v3 : Value} {rp r : Option Nat} {i : Nat} {va : Value} {is : List Nat} {Si : St} {Xi : Gx} {Fi : Nat → Prop} {wr : World} (hN : NdW w0 w S X F mT mR nb N t v3 rp r i va is Si Xi Fi wr) (his : ∀ j ∈ is, j < Si.G.n) (hnn : S.G.n ≤ Si.G.n) (hnw : w.heap.size ≤ nb)
    {W8 w3 : World} {Y : Gx} {F8 : Nat → Prop} (hc8 : Ch (fun _ => False) wr W8) (hF8 : F8 = Fg Fi wr W8) (hV3 : VM w3 (put ti Si).2 Y F8 mT mR) (hx3 : XA W8 Si.G.n (put ti Si).2.G.n Xi Y) (hc3 : Ch (Mp mT mR) W8 w3) (hle : Si.G.n ≤ (put ti Si).2.G.n) {w5 : World} {v' : Value} {n : Nat}
    (hrow : w5.ownsRow 0 61 1 v' (n + 1) ((is.map fun j => bP (Xi.pi j)) ++ [bP (Y.pi (put ti Si).1)])) (hgrow : (w3.alloc (.cells #[bP (Y.pi (put ti Si).1)] 61)).grownBy w5 va.ownBlock) (hblk : v'.ownBlock = va.ownBlock ∨ v'.ownBlock = some (w3.alloc (.cells #[bP (Y.pi (put ti Si).1)] 61)).heap.size) (hni : n = i) :
    NdW w0 w S X F mT mR nb N t v3 rp r (i + 1) v' (is ++ [(put ti Si).1]) (put ti Si).2 Y (Fg F8 w3 (w5.setCell ⟨nb, 1, none⟩ v')) (w5.setCell ⟨nb, 1, none⟩ v') := by
  subst hni
  have hsub8 : ∀ k, Fi k → F8 k := fun k hk => by rw [hF8]; exact .inl hk
  have hV8 := hN.vm.quiet hc8
  have st : ∀ {k : Nat} {cs : Array Value} {T : TypeId} {fr : Nat × Nat}, wr.heap[k]? = some (.cells cs T fr) → w3.heap[k]? = some (.cells cs T fr) := fun {k cs T fr} hk => hV8.stay hc3 ((hc8.same _ (Array.getElem?_eq_some_iff.1 hk).1 (fun h => h)).trans hk)
  have hvaT : Tb wr 61 va := Tb.row hN.row
  have hva3 : ∀ k, va.ownBlock = some k → ∃ cs fr, w3.heap[k]? = some (.cells cs 61 fr) := fun k hk => by
    obtain ⟨cs, fr, e⟩ := hvaT k hk
    exact ⟨cs, fr, st e⟩
  have nd3 := st hN.nd
  have bx3 := st hN.bx
  have hnb3 : ∀ k, va.ownBlock = some k → k ≠ nb := fun k hk e => by
    obtain ⟨cs, fr, e2⟩ := hva3 k hk
    rw [e, nd3] at e2
    cases e2
  have c5 : Ch (fun k => va.ownBlock = some k) w3 w5 := (al_ch w3 (.cells #[bP (Y.pi (put ti Si).1)] 61)).mono (fun _ h => h.elim) |>.trans (Ch.grown hgrow (fun k hk => hk)) (fun _ h => .inl h)
  have c6 : Ch (fun k => va.ownBlock = some k ∨ k = nb) w3 (w5.setCell ⟨nb, 1, none⟩ v') := (c5.mono (fun _ h => .inl h)).trans (O1 := fun k => k = nb) (Ch.setCell w5 ⟨nb, 1, none⟩ v' rfl) (fun k e => .inl (.inr e))
  have hnb5 : w5.heap[nb]? = _ := (c5.same _ (Array.getElem?_eq_some_iff.1 nd3).1 (fun hk => hnb3 nb hk rfl)).trans nd3
  have hsz3 : w.heap.size ≤ w3.heap.size := Nat.le_trans hN.ch.size (Nat.le_trans hc8.size hc3.size)
  have hvown : ∀ k, v'.ownBlock = some k → va.ownBlock = some k ∨ (w3.heap.size ≤ k ∧ k < w5.heap.size) := fun k hk => by
    have hlt := ownsRow_lt hrow hk
    rcases hblk with e | e
    · exact .inl (e.symm.trans hk)
    · rw [e] at hk; cases hk; exact .inr ⟨by simp, hlt⟩
  have hs56 : (w5.setCell ⟨nb, 1, none⟩ v').heap.size = w5.heap.size := by
    show (w5.heap.modify _ _).size = _
    rw [Array.size_modify]
  have hV6 := hV3.far c6 (fun k hk => by
    rcases hk with hk | rfl
    · obtain ⟨cs, fr, e⟩ := hva3 k hk
      have := hV3.apart e
      exact ⟨hsub8 k (hN.fv k hk).1, fun e => this (.inl e), fun e => this (.inr e)⟩
    · have := hV3.apart nd3
      exact ⟨hsub8 _ hN.fn, fun e => this (.inl e), fun e => this (.inr e)⟩)
  have hmap : is.map (fun j => bP (Y.pi j)) = is.map (fun j => bP (Xi.pi j)) := List.map_congr_left (fun j hj => by rw [hx3.pi j (his j hj)])
  refine ⟨hV6, fun k hk => .inl (hsub8 k (hN.sub k hk)), .inl (hsub8 _ hN.fn), ?_, fun k hk => ?_, ?_, ?_, ?_, ?_, hN.xa.trans hx3 hnn (Nat.le_trans hN.ch.size hc8.size), ?_, hN.rv.ext hx3.ps, hN.pw⟩
  · rw [List.map_append, hmap]
    refine ownsRow_keep hrow (fun k hk => Below.heap_setCell w5 ⟨nb, 1, none⟩ v' k (fun e => ?_))
    have e' : k = nb := e
    rcases hvown k hk with h1 | h1
    · exact hnb3 k h1 e'
    · have := (Array.getElem?_eq_some_iff.1 nd3).1; omega
  · rcases hvown k hk with h1 | h1
    · exact ⟨.inl (hsub8 k (hN.fv k h1).1), (hN.fv k h1).2⟩
    · exact ⟨.inr ⟨h1.1, by rw [hs56]; exact h1.2⟩, by omega⟩
  · rw [blk_set hnb5]
    rfl
  · refine ((hN.bag.quiet hc8).maps hV8 hc3).on c6 (fun k hk ho => ?_)
    obtain ⟨cs, fr, e⟩ := hN.bag.tb k hk
    have e3 := st e
    rcases ho with ho | rfl
    · obtain ⟨cs', fr', e'⟩ := hva3 k ho
      rw [e3] at e'
      cases e'
    · rw [nd3] at e3
      cases e3
  · refine ((hN.ps.step hc8 (fun _ h => h.elim)).step hc3 (fun k hk => ?_)).step c6 (fun k hk => ?_)
    · rcases hk with rfl | rfl
      · exact hN.ps.t
      · exact hN.ps.r
    · have := hN.ps.size
      have hw := hN.ch.size
      have h0 : w0.heap.size ≤ w.heap.size := hN.pw
      rcases hk with hk | rfl
      · have := (hN.fv k hk).2; omega
      · omega
  · refine (c6.same _ (Array.getElem?_eq_some_iff.1 bx3).1 (fun ho => ?_)).trans bx3
    rcases ho with ho | e
    · obtain ⟨cs, fr, e⟩ := hva3 _ ho
      rw [bx3] at e
      cases e
    · rw [e, nd3] at bx3
      cases bx3
  · exact ((hN.ch.trans hc8 (fun _ h => h.elim)).trans hc3 (fun _ h => .inl h)).trans c6 (fun k hk => by
      rcases hk with hk | rfl
      · exact .inr (hN.fv k hk).2
      · exact .inr hnw)
theorem ArgsT.of_row {w : World} {v : Value} {bs : List Nat} (h : w.ownsRow 0 61 1 v bs.length (bs.map bP)) (hf : ∀ k, v.ownBlock = some k → ¬ F k) : ArgsT w F v bs := by
  refine ⟨?_, Tb.row h, hf⟩
  obtain ⟨a, c, rfl, h1, _⟩ := row_slice h
  refine ⟨a, c, rfl, fun h0 => ?_⟩
  rcases h1 with h1 | ⟨g, rfl⟩
  · exact absurd (List.length_eq_zero_iff.1 h1) h0
  · refine ⟨g, 0, rfl, fun i b hb => ?_⟩
    rw [Nat.zero_add]
    exact row_cell h i _ (by rw [List.getElem?_map, hb]; rfl)
theorem NdW.fin {w0 w : World} {S : St} {X : Gx} {mT mR nb N : Nat} {t : Ty.P} {v3 : Value} {rp : Option Nat} {va : Value} {is : List Nat} {Si : St} {Xi : Gx} {Fi : Nat → Prop} {wr : World} {i : Nat} (hN : NdW w0 w S X F mT mR nb N t v3 rp (rvOf t.row) i va is Si Xi Fi wr) (hlen : is.length = i) (h : VM w S X F mT mR) (hok : Si.OK) (his : ∀ j ∈ is, j < Si.G.n) (hnn : S.G.n ≤ Si.G.n) (hnw : w.heap.size ≤ nb) (hfl : Un.flat (bagL t.ops) = t.ops) :
    VM wr ⟨Si.G.add t.kind is t.ops (rvOf t.row), Si.tv⟩ (Xi.node Si.G.n nb) F mT mR ∧ XA w S.G.n (Si.G.n + 1) X (Xi.node Si.G.n nb) := by
  subst hlen
  have hFlt : ∀ k, F k → k < w.heap.size := h.pg.F_lt
  have hA : ArgsT wr F va (is.map Xi.pi) := ArgsT.of_row (by rw [List.length_map, List.map_map]; exact hN.row) (fun k hk hf => by have := (hN.fv k hk).2; have := hFlt k hf; omega)
  have hpg := PG.add hok.g (hN.vm.pg.mono hN.sub) hN.nd (fun hf => by have := hFlt nb hf; omega) (fun ho => hN.vm.pg.own_F ho hN.fn) hA his hN.bag hN.rv
  rw [hfl] at hpg
  obtain ⟨l, h1, h2⟩ := hN.vm.ty
  refine ⟨⟨hpg, h.fT, h.fR, h.ne, ⟨l, h1, fun m => ?_⟩, hN.vm.ro⟩, hN.xa.trans (XA.node (w := w) hnw) hnn (Nat.le_refl _)⟩
  rw [h2]
  cases hx : Si.tv.lookup m with
  | none => rfl
  | some q =>
    have hq : q < Si.G.n := hok.tv _ (Un.lookup_mem hx)
    show some (Xi.pi q) = some (setF Xi.pi Si.G.n nb q)
    rw [setF_other (by omega)]
theorem sb_of {w : World} {N b mT mR : Nat} {k n r : Int} {os az : Value} (hN : w.heap[N]? = some (.cells #[.map (some mT), .map (some mR)] 48 (0, 0))) (hb : w.heap[b]? = some (tyB k n r os az)) :
    (w.cell? ⟨N, 0, none⟩ = some (.map (some mT)) ∧ w.cell? ⟨N, 1, none⟩ = some (.map (some mR))) ∧ w.cell? ⟨b, 0, none⟩ = some (.int .i64 k) ∧ w.cell? ⟨b, 1, none⟩ = some (.int .i64 n) ∧ w.cell? ⟨b, 2, none⟩ = some (.int .i64 r) ∧ w.cell? ⟨b, 3, none⟩ = some os ∧ w.cell? ⟨b, 4, none⟩ = some az :=
  ⟨⟨by rw [cellB hN]; rfl, by rw [cellB hN]; rfl⟩, Bx.cells hb⟩
theorem Try.infoPN : (Try.prog.info? 61).map (fun i => (i.zero, i.size, i.bytes)) = some (some (.pointer none), 1, 8) := by kernel_rfl
theorem run_append_pn {w : World} {v : Value} {n : Nat} {xs : List Value} (hown : w.ownsRow 0 61 1 v n xs) {u : Value} {x : Nat} (hu : u.oneCell' = true) (hx : w.heap[x]? = some (.cells #[u] 61 (0, 0))) (hn : n < 1000000000) (ty : TypeId) :
    ∃ v' w', (Builtin.append_ #[50, 50] ty #[v, .slice (some ⟨x, 0, none⟩) 1 1]).run Try.prog w = .ok v' w' ∧ w'.ownsRow 0 61 1 v' (n + 1) (xs ++ [u]) ∧ w.grownBy w' v.ownBlock ∧ (v'.ownBlock = v.ownBlock ∨ v'.ownBlock = some w.heap.size) := by
  obtain ⟨i, hi, hzz⟩ := Option.map_eq_some_iff.1 Try.infoPN
  simp only [Prod.mk.injEq] at hzz
  obtain ⟨hz, hs, hb⟩ := hzz
  obtain ⟨v', w', hr, h4, h5, h6, h7⟩ := run_append_own_at (P := Try.prog) w 0 50 ty 61 i _ 1 8 Try.underlying50 hi hz hs hb rfl (by decide) v n xs hown ⟨x, 0, none⟩ 1 1 [u] rfl (fun j u' hj => by
    rw [at_plain]
    unfold World.cell?
    rw [hx]
    have : j = 0 := by
      have := (List.getElem?_eq_some_iff.1 hj).1
      simp at this
      omega
    subst this
    simp at hj
    subst hj
    rfl) (fun u' hu' => by
    obtain rfl := List.mem_singleton.1 hu'
    exact hu) (by unfold maxLen; omega) (by omega) (Nat.zero_le _)
  exact ⟨v', w', hr, h4, h5, h7⟩

set_option maxRecDepth 100000 in
set_option maxHeartbeats 8000000 in
theorem Node_gen {w0 : World} {t : Ty.P} (hk0 : t.kind ≠ 0) (ih : ∀ x ∈ kidsT t, NodeOK w0 x) : NodeOK w0 t := by
  intro w S X F mT mR os az h hS hok hpt hp hi
  obtain ⟨hov, sa, ca, hza, hkid⟩ := hi.gen
  have hnum := num_zero hk0
  have hkl := kids_two t
  subst hza
  obtain ⟨so, co, hos, -⟩ := id hov
  subst hos
  have hch := al2_ch w (.cells #[.map (some mT), .map (some mR)] 48) (tyB t.kind 0 t.row (.slice so t.ops.length co) (.slice sa (kidsT t).length ca))
  have hB0 := al2_old w (.cells #[.map (some mT), .map (some mR)] 48) (tyB t.kind 0 t.row (.slice so t.ops.length co) (.slice sa (kidsT t).length ca))
  have hB1 : Bx _ _ _ _ _ _ _ := al2_new w (.cells #[.map (some mT), .map (some mR)] 48) (tyB t.kind 0 t.row (.slice so t.ops.length co) (.slice sa (kidsT t).length ca))
  have hs : (w.alloc (.cells #[.map (some mT), .map (some mR)] 48)).heap.size = w.heap.size + 1 := by simp
  have hkk : ((t.kind : Int) == 0) = false := by rw [beq_eq_false_iff_ne]; omega
  replace h := hid h
  replace hS := hid hS
  replace hp := hid hp
  replace hok := hid hok
  rw [hnum]
  show Calls Try.prog 17 #[.agg #[.map (some mT), .map (some mR)], tyV t.kind 0 t.row (.slice so t.ops.length co) (.slice sa (kidsT t).length ca)] w _
  rw [put_all hk0 S]
  replace hk0 := hid hk0
  replace ih := hid ih
  replace hkid := hid hkid
  replace hpt := hid hpt
  clear hi
  go_enter Try.func17, Try.ntmps17
  go_upto_region 1 with (fail)
  generalize (w.alloc (.cells #[.map (some mT), .map (some mR)] 48)).alloc (tyB t.kind 0 t.row (.slice so t.ops.length co) (.slice sa (kidsT t).length ca)) = W at *
  obtain ⟨b0, b1, b2, b3, b4⟩ := hB1.cells
  go_upto_region 3 with (fail)
  have hcd := Ch.drew (fun _ => False) W
  have hcW := hch.trans hcd (fun _ h => h.elim)
  have hVd := hid (h.out.quiet hcW)
  have hpd := hid (hp.out.step hcW (fun _ h => h.elim))
  have hS0 : W.drew.cell? ⟨w.heap.size + 1, 0, none⟩ = some (.int .i64 (t.kind : Nat)) ∧ W.drew.cell? ⟨w.heap.size + 1, 3, none⟩ = some (.slice so t.ops.length co) := ⟨b0, b3⟩
  have HB := bagOf_any sort_ok W.drew (.slice so t.ops.length co) t.ops (OpsV.carry hov hpd.out.same) (ops_sorted hok.out) (by have := ops_parts t; have := hpt.out; omega)
  replace hB0 := hid (show W.drew.heap[w.heap.size]? = _ from hB0)
  replace hB1 := hid (show Bx W.drew _ _ _ _ _ _ from hB1)
  replace hov := hid hov
  replace hcd := hid hcd
  replace hcW := hid hcW
  clear b0 b1 b2 b3 b4 hch
  refine wp_region_held_drew (S := (fun w' => w'.cell? ⟨w.heap.size + 1, 0, none⟩ = some (.int .i64 (t.kind : Nat)) ∧ w'.cell? ⟨w.heap.size + 1, 3, none⟩ = some (.slice so t.ops.length co))) (by kernel_rfl) (by first | trivial | ((try dsimp only); go_keep)) (fun hHeld => ?_)
  refine wpAnyH_take (i := 0) (v := ?vvp1) rfl (by kernel_rfl) (by kernel_rfl) (by kernel_rfl) (fun _ _ _ h => h) (Or.inl ⟨by rfl, ?yyp1⟩) (by assumption) ?rrp1
  case yyp1 => (intro w' hSw; (try dsimp only at hSw); go_simp; (try with_reducible rfl))
  try simp only [Act.put, List.setIfInBounds_toArray, List.set_cons_zero, List.set_cons_succ]
  refine wpAnyH_take (i := 1) (v := ?vvp2) rfl (by kernel_rfl) (by kernel_rfl) (by kernel_rfl) (fun _ _ _ h => h) (Or.inl ⟨by rfl, ?yyp2⟩) (by assumption) ?rrp2
  case yyp2 => (intro w' hSw; (try dsimp only at hSw); go_simp; (try with_reducible rfl))
  try simp only [Act.put, List.setIfInBounds_toArray, List.set_cons_zero, List.set_cons_succ]
  refine wpAnyH_take (i := 2) (v := ?vvp3) rfl (by kernel_rfl) (by kernel_rfl) (by kernel_rfl) (fun _ _ _ h => h) (Or.inl ⟨by rfl, ?yyp3⟩) (by assumption) ?rrp3
  case yyp3 => (intro w' hSw; (try dsimp only at hSw); go_simp; (try with_reducible rfl))
  try simp only [Act.put, List.setIfInBounds_toArray, List.set_cons_zero, List.set_cons_succ]
  refine wpAnyH_take (i := 3) (v := ?vvp4) rfl (by kernel_rfl) (by kernel_rfl) (by kernel_rfl) (fun _ _ _ h => h) (Or.inl ⟨by rfl, ?yyp4⟩) (by assumption) ?rrp4
  case yyp4 => (intro w' hSw; (try dsimp only at hSw); go_simp; (try with_reducible rfl))
  try simp only [Act.put, List.setIfInBounds_toArray, List.set_cons_zero, List.set_cons_succ]
  refine wpAnyH_ready (rs := [4]) (by kernel_rfl) (by simp) (AllReadyH.cons rfl (fun K hK => ?_) AllReadyH.nil)
  go_simp
  refine HB.mono ?_
  clear HB
  rintro e w3 ⟨v3, rfl, hF3⟩
  obtain ⟨s3, k3, hv3, -⟩ := id hF3.v
  subst hv3
  have hS5 := And.intro (cell_ch hF3.2.1 hS0.1 (fun h => h)) (cell_ch hF3.2.1 hS0.2 (fun h => h))
  have hS6 := hS5
  replace hF3 := hid hF3
  dsimp only
  clear hHeld
  refine hK.out _ _ ?hs (fun hHeld => ?_)
  case hs => (first | exact hS5 | trivial | ((try dsimp only); go_keep) | ((try dsimp only); simp [*, World.cell?_alloc_some, World.cell?_setCell_far, World.cell?_setCell_other]))
  clear hK K
  try simp only [Act.put, List.setIfInBounds_toArray, List.set_cons_zero, List.set_cons_succ]
  refine wpAnyH_take (i := 5) (v := ?vvp5) rfl (by kernel_rfl) (by kernel_rfl) (by kernel_rfl) (fun _ _ _ h => h) (Or.inl ⟨by rfl, ?yyp5⟩) (by assumption) ?rrp5
  case yyp5 => (intro w' hSw; (try dsimp only at hSw); go_simp; (try with_reducible rfl))
  try simp only [Act.put, List.setIfInBounds_toArray, List.set_cons_zero, List.set_cons_succ]
  refine wpAnyH_take (i := 6) (v := ?vvp6) rfl (by kernel_rfl) (by kernel_rfl) (by kernel_rfl) (fun _ _ _ h => h) (Or.inl ⟨by rfl, ?yyp6⟩) (by assumption) ?rrp6
  case yyp6 => (intro w' hSw; (try dsimp only at hSw); go_simp; (try with_reducible rfl))
  try simp only [Act.put, List.setIfInBounds_toArray, List.set_cons_zero, List.set_cons_succ]
  refine wpAnyH_ready (rs := [7]) (by kernel_rfl) (by simp) (AllReadyH.cons rfl (fun K hK => ?_) AllReadyH.nil)
  go_simp
  have hS5 := And.intro (cell_ch (al_ch w3 (.cells #[.int .i64 (t.kind : Nat), .slice none 0 0, .slice s3 (bagL t.ops).length k3, .pointer none, .pointer none, .int .i64 0, .int .i64 0] 78)) hS6.1 (fun h => h)) (cell_ch (al_ch w3 (.cells #[.int .i64 (t.kind : Nat), .slice none 0 0, .slice s3 (bagL t.ops).length k3, .pointer none, .pointer none, .int .i64 0, .int .i64 0] 78)) hS6.2 (fun h => h))
  have hS7 := hS5
  clear hHeld
  refine hK.out _ _ ?hs (fun hHeld => ?_)
  case hs => (first | exact hS5 | trivial | ((try dsimp only); go_keep) | ((try dsimp only); simp [*, World.cell?_alloc_some, World.cell?_setCell_far, World.cell?_setCell_other]))
  clear hK K
  try simp only [Act.put, List.setIfInBounds_toArray, List.set_cons_zero, List.set_cons_succ]
  refine wpAnyH_ready (rs := [8]) (by kernel_rfl) (by simp) (AllReadyH.cons rfl (fun K hK => ?_) AllReadyH.nil)
  go_simp
  have hS5 := hS7
  clear hHeld
  refine hK.out _ _ ?hs (fun hHeld => ?_)
  case hs => (first | exact hS5 | trivial | ((try dsimp only); go_keep) | ((try dsimp only); simp [*, World.cell?_alloc_some, World.cell?_setCell_far, World.cell?_setCell_other]))
  clear hK K
  try simp only [Act.put, List.setIfInBounds_toArray, List.set_cons_zero, List.set_cons_succ]
  refine wpAnyH_done (by kernel_rfl) ?_ _
  clear hHeld
  clear hS5 hS6 hS7 hS0
  have hba := hid (Un.bagL_any t.ops.length t.ops rfl (ops_sorted hok.out))
  have hca := al_ch w3 (.cells #[.int .i64 (t.kind : Nat), .slice none 0 0, .slice s3 (bagL t.ops).length k3, .pointer none, .pointer none, .int .i64 0, .int .i64 0] 78)
  have hc3 := hF3.out.2.1
  have hc4 := hc3.trans hca (fun _ h => h.elim)
  have hnd := World.alloc_heap_new w3 (.cells #[.int .i64 (t.kind : Nat), .slice none 0 0, .slice s3 (bagL t.ops).length k3, .pointer none, .pointer none, .int .i64 0, .int .i64 0] 78)
  have hbg := hid ((hF3.out.tag (F := F) hba.out.2 (fun k hk => by have := h.out.pg.F_lt k hk; have := hcW.out.size; omega)).quiet hca)
  have hB0' := hid ((hc4.same _ (Array.getElem?_eq_some_iff.1 hB0.out).1 (fun h => h)).trans hB0.out)
  have hB1' : Hid (Bx _ _ _ _ _ _ _) := hid ((hc4.same _ (Array.getElem?_eq_some_iff.1 hB1.out).1 (fun h => h)).trans hB1.out)
  have hVd4 := hVd.out.far (hc4.mono (O1 := fun _ => False) (fun _ h => h)) (fun _ h => h.elim)
  have hp4 := hid (hpd.out.step hc4 (fun _ h => h.elim))
  have hcw4 := hid (hcW.out.trans hc4 (fun _ h => h.elim))
  have hfn : Fg F W.drew (w3.alloc (.cells #[.int .i64 (t.kind : Nat), .slice none 0 0, .slice s3 (bagL t.ops).length k3, .pointer none, .pointer none, .int .i64 0, .int .i64 0] 78)) w3.heap.size := .inr ⟨hc3.size, (Array.getElem?_eq_some_iff.1 hnd).1⟩
  have hnbw : w.heap.size ≤ w3.heap.size := Nat.le_trans hcW.out.size hc3.size
  have hnbs : w.heap.size + 1 < w3.heap.size := Nat.lt_of_lt_of_le (Array.getElem?_eq_some_iff.1 hB1.out).1 hc3.size
  clear hF3 hB0 hB1 hVd hpd hcd hcW hca hc3 hc4
  generalize hF4 : Fg F W.drew _ = F4 at *
  have hsub : Hid (∀ k, F k → F4 k) := fun k hk => by rw [← hF4]; exact .inl hk
  clear hF4
  generalize w3.alloc (.cells #[.int .i64 (t.kind : Nat), .slice none 0 0, .slice s3 (bagL t.ops).length k3, .pointer none, .pointer none, .int .i64 0, .int .i64 0] 78) = w4 at *
  generalize hnbe : w3.heap.size = nb at *
  clear hnbe
  replace hVd4 := hid hVd4
  obtain ⟨b0, b1, b2, b3, b4⟩ := hB1'.out.cells
  have hN00 : ∀ {rp : Option Nat} {Y : Gx} {wq : World}, VM wq S Y F4 mT mR → wq.heap[nb]? = some (.cells #[.int .i64 (t.kind : Nat), .slice none 0 0, .slice s3 (bagL t.ops).length k3, oP rp, .pointer none, .int .i64 0, .int .i64 0] 78 (0, 0)) → BagT wq F (.slice s3 (bagL t.ops).length k3) (bagL t.ops) → Pst w0 wq mT mR → wq.heap[w.heap.size]? = some (.cells #[.map (some mT), .map (some mR)] 48 (0, 0)) → XA w S.G.n S.G.n X Y → Ch (Mp mT mR) w wq → RestV Y (rvOf t.row) rp →
      NdW w0 w S X F mT mR nb w.heap.size t (.slice s3 (bagL t.ops).length k3) rp (rvOf t.row) 0 (.slice none 0 0) (putAll ((kidsT t).take 0) S).1 (putAll ((kidsT t).take 0) S).2 Y F4 wq := fun {rp Y wq} h1 h2 h3 h4 h5 h6 h7 h8 =>
    ⟨by simpa [putAll] using h1, hsub.out, hfn, by simpa [putAll] using World.ownsRow_nil wq 0 61 1, (fun k hk => by cases hk), h2, h3, h4, h5, by simpa [putAll] using h6, h7, h8, hp.out.size⟩
  by_cases h0 : t.row = 0
  · have hr0 : ¬ (0 : Int) < (t.row : Int) := by omega
    have hN0 := hid (hN00 (rp := none) hVd4.out hnd hbg.out hp4.out hB0'.out (XA.refl w _ X) (hcw4.out.mono (fun _ h => h.elim)) (by unfold rvOf; rw [if_pos h0]; rfl))
    obtain ⟨rp, hrp⟩ : ∃ rp : Option Nat, rp = none := ⟨_, rfl⟩
    rw [← hrp] at hN0
    obtain ⟨X0, hX0⟩ : ∃ X0, X0 = X := ⟨_, rfl⟩
    rw [← hX0] at hN0
    obtain ⟨F0, hF0⟩ : ∃ F0, F0 = F4 := ⟨_, rfl⟩
    rw [← hF0] at hN0
    replace hN0 : Hid (NdW w0 w S X F mT mR nb w.heap.size t (.slice s3 (bagL t.ops).length k3) rp (rvOf t.row) 0 (.slice none 0 0) (putAll ((kidsT t).take 0) S).1 (putAll ((kidsT t).take 0) S).2 X0 F0 w4) := hid (by have := hN0.out; rw [hX0] at this ⊢; exact this)
    replace hrp := hid hrp
    replace hX0 := hid hX0
    replace hF0 := hid hF0
    replace h0 := hid h0
    clear hN00 hVd4 hnd hbg hp4 hB0' hcw4
    go_wp2
    go_loopg [39] ((kidsT t).length + 1) (fun q v39 wr => ∃ (i : Nat) (va : Value) (Xi : Gx) (Fi : Nat → Prop), v39 = .int .i64 (i : Nat) ∧ i ≤ (kidsT t).length ∧ q = (kidsT t).length + 1 - i ∧ Hid (NdW w0 w S X F mT mR nb w.heap.size t (.slice s3 (bagL t.ops).length k3) rp (rvOf t.row) i va (putAll ((kidsT t).take i) S).1 (putAll ((kidsT t).take i) S).2 Xi Fi wr))
    case atStart => exact ⟨0, .slice none 0 0, X0, F0, rfl, by omega, by omega, hN0⟩
    case round =>
      clear hN0
      obtain ⟨i, va, Xi, Fi, rfl, hi, rfl, hN⟩ := hrel
      have hPA := hid (putAll_ok ((kidsT t).take i) (fun x hx => kids_ok hok.out x (List.mem_of_mem_take hx)) S hS.out)
      by_cases e : i < (kidsT t).length
      · have i0 : (0 : Int) ≤ i := by omega
        have i1 : (i : Int) < ((kidsT t).length : Int) := by omega
        have hwi : IntKind.i64.wrap ((i : Int) + 1) = (i : Int) + 1 := IntWalk.i64_in _ (by omega)
        obtain ⟨ti, hti⟩ : ∃ x, (kidsT t)[i]? = some x := ⟨(kidsT t)[i], by simp⟩
        obtain ⟨g, o, os', az', hsg, hel, hist⟩ := hkid.out i ti hti
        obtain ⟨qa, qc, qb, ql, qd, hos2, haz2, -⟩ := hist.slices
        subst hos2 haz2
        subst hsg
        obtain ⟨z0, z1, z2, z3, z4⟩ := hN.out.ps.el hel
        have htim := List.mem_of_getElem? hti
        have htk := hid (show (kidsT t).take (i + 1) = (kidsT t).take i ++ [ti] by rw [List.take_add_one, hti]; rfl)
        have hpo := Un.put_ok ti (kids_ok hok.out ti htim) _ hPA.out.1
        have hle := hid hpo.2.2.1
        have his := hid hPA.out.2.1
        have hnn := hid hPA.out.2.2.1
        clear hpo
        go_upto_region 9 with (fail)
        have hc8 := hid ((al_ch wr (tyB ti.kind ti.num ti.row (.slice qa ti.ops.length qc) (.slice qb ql qd))).trans (Ch.drew (fun _ => False) _) (fun _ h => h.elim))
        have hbx : (wr.alloc (tyB ti.kind ti.num ti.row (.slice qa ti.ops.length qc) (.slice qb ql qd))).heap[wr.heap.size]? = some (tyB ti.kind ti.num ti.row (.slice qa ti.ops.length qc) (.slice qb ql qd)) := World.alloc_heap_new wr _
        have hbxn : nb < wr.heap.size := (Array.getElem?_eq_some_iff.1 hN.out.nd).1
        have keep8 : ∀ {k : Nat} {o : Obj}, wr.heap[k]? = some o → (wr.alloc (tyB ti.kind ti.num ti.row (.slice qa ti.ops.length qc) (.slice qb ql qd))).heap[k]? = some o := fun hk => blk_alloc hk
        have hN8 := hid (keep8 hN.out.bx)
        have hX8 := hid hbx
        have hD8 := hid (keep8 hN.out.nd)
        have hR8 := hid (ownsRow_keep (w' := wr.alloc (tyB ti.kind ti.num ti.row (.slice qa ti.ops.length qc) (.slice qb ql qd))) hN.out.row (fun k hk => Below.heap_alloc _ _ _ (ownsRow_lt hN.out.row hk)))
        rw [show ((putAll ((kidsT t).take i) S).1).map _ = _ from rfl] at hR8
        clear keep8 hbx z0 z1 z2 z3 z4
        generalize hW8 : wr.alloc (tyB ti.kind ti.num ti.row (.slice qa ti.ops.length qc) (.slice qb ql qd)) = W8 at *
        clear hW8
        generalize hbe : wr.heap.size = bxn at *
        clear hbe
        have hS0 := sb_of (w := W8.drew) hN8.out hX8.out
        have hm8 : W8.drew.cell? ⟨nb, 1, none⟩ = some va := (node_cells (w := W8.drew) hD8.out).2.1
        have hV8 := hid (hN.out.vm.quiet hc8.out)
        obtain ⟨F8, hF8⟩ : ∃ F8, F8 = Fg Fi wr W8.drew := ⟨_, rfl⟩
        have hVg : VM W8.drew (putAll ((kidsT t).take i) S).2 Xi F8 mT mR := by rw [hF8]; exact hN.out.vm.far hc8.out (fun _ h => h.elim)
        have hVa8 := hid (fun k hk => by
          obtain ⟨cs, fr, e9⟩ := Tb.row hR8.out k hk
          exact hV8.out.apart (k := k) (show W8.drew.heap[k]? = _ from e9))
        have HN := ih.out ti htim hVg hPA.out.1 (kids_ok hok.out ti htim) (by have := kidsT_parts ti htim; have := hpt.out; omega) (hN.out.ps.step hc8.out (fun _ h => h.elim)) hist
        replace hF8 := hid hF8
        replace hti := hid hti
        replace htim := hid htim
        replace hel := hid hel
        replace hist := hid hist
        replace hbxn := hid hbxn
        have hbn : bxn ≠ nb := by have := hbxn.out; omega
        have hwn : w.heap.size ≠ nb := by omega
        clear hVg
        refine wp_region_held_drew (S := (fun w' => (w'.cell? ⟨w.heap.size, 0, none⟩ = some (.map (some mT)) ∧ w'.cell? ⟨w.heap.size, 1, none⟩ = some (.map (some mR))) ∧ w'.cell? ⟨bxn, 0, none⟩ = some (.int .i64 (ti.kind : Nat)) ∧ w'.cell? ⟨bxn, 1, none⟩ = some (.int .i64 (ti.num : Nat)) ∧ w'.cell? ⟨bxn, 2, none⟩ = some (.int .i64 (ti.row : Nat)) ∧ w'.cell? ⟨bxn, 3, none⟩ = some (.slice qa ti.ops.length qc) ∧ w'.cell? ⟨bxn, 4, none⟩ = some (.slice qb ql qd))) (by kernel_rfl) (by first | trivial | ((try dsimp only); go_keep)) (fun hHeld => ?_)
        refine wpAnyH_take (i := 0) (v := ?vvq7) rfl (by kernel_rfl) (by kernel_rfl) (by kernel_rfl) (fun _ _ _ h => h) (Or.inl ⟨by rfl, ?yyq7⟩) (by assumption) ?rrq7
        case yyq7 => (intro w' hSw; (try dsimp only at hSw); go_simp; (try with_reducible rfl))
        try simp only [Act.put, List.setIfInBounds_toArray, List.set_cons_zero, List.set_cons_succ]
        refine wpAnyH_take (i := 1) (v := ?vvq8) rfl (by kernel_rfl) (by kernel_rfl) (by kernel_rfl) (fun _ _ _ h => h) (Or.inl ⟨by rfl, ?yyq8⟩) (by assumption) ?rrq8
        case yyq8 => (intro w' hSw; (try dsimp only at hSw); go_simp; (try with_reducible rfl))
        try simp only [Act.put, List.setIfInBounds_toArray, List.set_cons_zero, List.set_cons_succ]
        refine wpAnyH_take (i := 2) (v := ?vvq9) rfl (by kernel_rfl) (by kernel_rfl) (by kernel_rfl) (fun _ _ _ h => h) (Or.inl ⟨by rfl, ?yyq9⟩) (by assumption) ?rrq9
        case yyq9 => (intro w' hSw; (try dsimp only at hSw); go_simp; (try with_reducible rfl))
        try simp only [Act.put, List.setIfInBounds_toArray, List.set_cons_zero, List.set_cons_succ]
        refine wpAnyH_take (i := 3) (v := ?vvq10) rfl (by kernel_rfl) (by kernel_rfl) (by kernel_rfl) (fun _ _ _ h => h) (Or.inl ⟨by rfl, ?yyq10⟩) (by assumption) ?rrq10
        case yyq10 => (intro w' hSw; (try dsimp only at hSw); go_simp; (try with_reducible rfl))
        try simp only [Act.put, List.setIfInBounds_toArray, List.set_cons_zero, List.set_cons_succ]
        refine wpAnyH_take (i := 5) (v := ?vvq11) rfl (by kernel_rfl) (by kernel_rfl) (by kernel_rfl) (fun _ _ _ h => h) (Or.inl ⟨by rfl, ?yyq11⟩) (by assumption) ?rrq11
        case yyq11 => (intro w' hSw; (try dsimp only at hSw); go_simp; (try with_reducible rfl))
        try simp only [Act.put, List.setIfInBounds_toArray, List.set_cons_zero, List.set_cons_succ]
        refine wpAnyH_take (i := 6) (v := ?vvq12) rfl (by kernel_rfl) (by kernel_rfl) (by kernel_rfl) (fun _ _ _ h => h) (Or.inl ⟨by rfl, ?yyq12⟩) (by assumption) ?rrq12
        case yyq12 => (intro w' hSw; (try dsimp only at hSw); go_simp; (try with_reducible rfl))
        try simp only [Act.put, List.setIfInBounds_toArray, List.set_cons_zero, List.set_cons_succ]
        refine wpAnyH_ready (rs := [4, 7]) (by kernel_rfl) (by simp) (AllReadyH.cons rfl (fun K hK => ?_) (AllReadyH.cons rfl (fun K hK => ?_) AllReadyH.nil))
        · go_simp
          have hS5 := hS0
          clear hHeld
          refine hK.out _ _ ?hs (fun hHeld => ?_)
          case hs => (first | exact hS5 | trivial | ((try dsimp only); go_keep) | ((try dsimp only); simp [*, World.cell?_alloc_some, World.cell?_setCell_far, World.cell?_setCell_other]))
          clear hK K
          try simp only [Act.put, List.setIfInBounds_toArray, List.set_cons_zero, List.set_cons_succ]
          refine wpAnyH_ready (rs := [7]) (by kernel_rfl) (by simp) (AllReadyH.cons rfl (fun K hK => ?_) AllReadyH.nil)
          go_simp
          refine HN.mono ?_
          clear HN
          rintro e w3 ⟨Y, rfl, hV3, hx3, hc3⟩
          have n3 := hV8.out.stay hc3 hN8.out
          have e3 := hV8.out.stay hc3 hX8.out
          have d3 := hV8.out.stay hc3 hD8.out
          have hS5 := sb_of n3 e3
          have hm3 : w3.cell? ⟨nb, 1, none⟩ = some va := (node_cells d3).2.1
          have r3 : w3.ownsRow 0 61 1 va i _ := ownsRow_keep hR8.out (fun k hk => hc3.same k (ownsRow_lt hR8.out hk) (hVa8.out k hk))
          have hD3 := hid d3
          have hN3 := hid n3
          have hX3 := hid e3
          have hR3 := hid r3
          have hV3' := hid hV3
          have hx3' := hid hx3
          have hc3' := hid hc3
          clear n3 e3 d3 r3 hV3 hx3 hc3
          dsimp only
          clear hHeld
          refine hK.out _ _ ?hs (fun hHeld => ?_)
          case hs => (first | exact hS5 | trivial | ((try dsimp only); go_keep) | ((try dsimp only); simp [*, World.cell?_alloc_some, World.cell?_setCell_far, World.cell?_setCell_other]))
          clear hK K
          try simp only [Act.put, List.setIfInBounds_toArray, List.set_cons_zero, List.set_cons_succ]
          refine wpAnyH_ready (rs := [8]) (by kernel_rfl) (by simp) (AllReadyH.cons rfl (fun K hK => ?_) AllReadyH.nil)
          go_simp
          have n4 := blk_alloc (x := .cells #[bP (Y.pi (put ti (putAll ((kidsT t).take i) S).2).1)] 61) hN3.out
          have e4 := blk_alloc (x := .cells #[bP (Y.pi (put ti (putAll ((kidsT t).take i) S).2).1)] 61) hX3.out
          have hm4 : (w3.alloc (.cells #[.pointer (some ⟨Y.pi (put ti (putAll ((kidsT t).take i) S).2).1, 0, none⟩)] 61)).cell? ⟨nb, 1, none⟩ = some va := (node_cells (blk_alloc (x := .cells #[bP (Y.pi (put ti (putAll ((kidsT t).take i) S).2).1)] 61) hD3.out)).2.1
          have hS5 := sb_of n4 e4
          have hN4 := hid n4
          have hX4 := hid e4
          clear n4 e4
          clear hHeld
          refine hK.out _ _ ?hs (fun hHeld => ?_)
          case hs => (first | exact hS5 | trivial | ((try dsimp only); go_keep) | ((try dsimp only); simp [*, World.cell?_alloc_some, World.cell?_setCell_far, World.cell?_setCell_other]))
          clear hK K
          try simp only [Act.put, List.setIfInBounds_toArray, List.set_cons_zero, List.set_cons_succ]
          refine wpAnyH_ready (rs := [9]) (by kernel_rfl) (by simp) (AllReadyH.cons rfl (fun K hK => ?_) AllReadyH.nil)
          have r4 : (w3.alloc (.cells #[bP (Y.pi (put ti (putAll ((kidsT t).take i) S).2).1)] 61)).ownsRow 0 61 1 va i _ := ownsRow_keep hR3.out (fun k hk => Below.heap_alloc _ _ _ (ownsRow_lt hR3.out hk))
          obtain ⟨v5, w5, hr5, hrow, hgrow, hblk⟩ := run_append_pn r4 (u := bP (Y.pi (put ti (putAll ((kidsT t).take i) S).2).1)) rfl (World.alloc_heap_new w3 _) (by omega) 50
          have ne4 : ∀ {k : Nat} {cs : Array Value} {T : TypeId} {fr : Nat × Nat}, T ≠ 61 → (w3.alloc (.cells #[bP (Y.pi (put ti (putAll ((kidsT t).take i) S).2).1)] 61)).heap[k]? = some (.cells cs T fr) → w5.heap[k]? = some (.cells cs T fr) := fun {k cs T fr} hT hk => (hgrow.block k (Array.getElem?_eq_some_iff.1 hk).1 (fun e => by
            obtain ⟨cs', fr', e2⟩ := Tb.row r4 k e.symm
            rw [hk] at e2
            cases e2
            exact hT rfl)).trans hk
          have n5 := ne4 (by decide) hN4.out
          have e5 := ne4 (by decide) hX4.out
          have d5 := ne4 (by decide) (blk_alloc (x := .cells #[bP (Y.pi (put ti (putAll ((kidsT t).take i) S).2).1)] 61) hD3.out)
          have hS5 := sb_of n5 e5
          have hm5 : w5.cell? ⟨nb, 1, none⟩ = some va := (node_cells d5).2.1
          have hf5 := frozenB d5 1
          have hN5 := hid n5
          have hX5 := hid e5
          have hrow' := hid hrow
          have hgrow' := hid hgrow
          have hblk' := hid hblk
          obtain ⟨a5, k5, hv5, _⟩ := row_slice hrow
          subst hv5
          clear r4 ne4 n5 e5 d5 hrow hgrow hblk
          refine step_append_run rfl (.tmp 47) (.tmp 51) 50 rfl rfl rfl hr5 ?_
          clear hr5
          clear hHeld
          refine hK.out _ _ ?hs (fun hHeld => ?_)
          case hs => (first | exact hS5 | trivial | ((try dsimp only); go_keep) | ((try dsimp only); simp [*, World.cell?_alloc_some, World.cell?_setCell_far, World.cell?_setCell_other]))
          clear hK K
          try simp only [Act.put, List.setIfInBounds_toArray, List.set_cons_zero, List.set_cons_succ]
          refine wpAnyH_take (i := 10) (v := ?vvq13) rfl (by kernel_rfl) (by kernel_rfl) (by kernel_rfl) (fun _ _ _ h => h) (Or.inl ⟨by rfl, ?yyq13⟩) (by assumption) ?rrq13
          case yyq13 => (intro w' hSw; (try dsimp only at hSw); go_simp; (try with_reducible rfl))
          try simp only [Act.put, List.setIfInBounds_toArray, List.set_cons_zero, List.set_cons_succ]
          refine wpAnyH_take (i := 11) (v := ?vvq14) rfl (by kernel_rfl) (by kernel_rfl) (by kernel_rfl) (fun _ _ _ h => h) (Or.inl ⟨by rfl, ?yyq14⟩) (by assumption) ?rrq14
          case yyq14 => (intro w' hSw; (try dsimp only at hSw); go_simp; (try with_reducible rfl))
          try simp only [Act.put, List.setIfInBounds_toArray, List.set_cons_zero, List.set_cons_succ]
          refine wpAnyH_ready (rs := [12]) (by kernel_rfl) (by simp) (AllReadyH.cons rfl (fun K hK => ?_) AllReadyH.nil)
          go_simp
          have n6 := blk_other (a := ⟨nb, 1, none⟩) (v := .slice a5 (i + 1) k5) hN5.out (by show w.heap.size ≠ nb; omega)
          have e6 := blk_other (a := ⟨nb, 1, none⟩) (v := .slice a5 (i + 1) k5) hX5.out (by show bxn ≠ nb; omega)
          have hS5 := sb_of n6 e6
          clear n6 e6
          clear hHeld
          refine hK.out _ _ ?hs (fun hHeld => ?_)
          case hs => (first | exact hS5 | trivial | ((try dsimp only); go_keep) | ((try dsimp only); simp [*, World.cell?_alloc_some, World.cell?_setCell_far, World.cell?_setCell_other]))
          clear hK K
          try simp only [Act.put, List.setIfInBounds_toArray, List.set_cons_zero, List.set_cons_succ]
          refine wpAnyH_done (by kernel_rfl) ?_ _
          clear hHeld
          have hnx := hid (hN.out.next his.out hnn.out hnbw hc8.out hF8.out hV3'.out hx3'.out hc3'.out hle.out hrow'.out hgrow'.out hblk'.out rfl)
          clear hS5 hm8 hm3 hm4 hm5 hf5
          go_wp2
          go_roundg ((kidsT t).length - i)
          case measure => omega
          case rel => exact ⟨i + 1, _, Y, _, by simp, by omega, by omega, by rw [htk.out, putAll_snoc]; exact hnx⟩
        · go_simp
          refine HN.mono ?_
          clear HN
          rintro e w3 ⟨Y, rfl, hV3, hx3, hc3⟩
          have n3 := hV8.out.stay hc3 hN8.out
          have e3 := hV8.out.stay hc3 hX8.out
          have d3 := hV8.out.stay hc3 hD8.out
          have hS5 := sb_of n3 e3
          have hm3 : w3.cell? ⟨nb, 1, none⟩ = some va := (node_cells d3).2.1
          have r3 : w3.ownsRow 0 61 1 va i _ := ownsRow_keep hR8.out (fun k hk => hc3.same k (ownsRow_lt hR8.out hk) (hVa8.out k hk))
          have hD3 := hid d3
          have hN3 := hid n3
          have hX3 := hid e3
          have hR3 := hid r3
          have hV3' := hid hV3
          have hx3' := hid hx3
          have hc3' := hid hc3
          clear n3 e3 d3 r3 hV3 hx3 hc3
          dsimp only
          clear hHeld
          refine hK.out _ _ ?hs (fun hHeld => ?_)
          case hs => (first | exact hS5 | trivial | ((try dsimp only); go_keep) | ((try dsimp only); simp [*, World.cell?_alloc_some, World.cell?_setCell_far, World.cell?_setCell_other]))
          clear hK K
          try simp only [Act.put, List.setIfInBounds_toArray, List.set_cons_zero, List.set_cons_succ]
          refine wpAnyH_ready (rs := [4, 8]) (by kernel_rfl) (by simp) (AllReadyH.cons rfl (fun K hK => ?_) (AllReadyH.cons rfl (fun K hK => ?_) AllReadyH.nil))
          · go_simp
            have hS5 := sb_of hN3.out hX3.out
            clear hHeld
            refine hK.out _ _ ?hs (fun hHeld => ?_)
            case hs => (first | exact hS5 | trivial | ((try dsimp only); go_keep) | ((try dsimp only); simp [*, World.cell?_alloc_some, World.cell?_setCell_far, World.cell?_setCell_other]))
            clear hK K
            try simp only [Act.put, List.setIfInBounds_toArray, List.set_cons_zero, List.set_cons_succ]
            refine wpAnyH_ready (rs := [8]) (by kernel_rfl) (by simp) (AllReadyH.cons rfl (fun K hK => ?_) AllReadyH.nil)
            go_simp
            have n4 := blk_alloc (x := .cells #[bP (Y.pi (put ti (putAll ((kidsT t).take i) S).2).1)] 61) hN3.out
            have e4 := blk_alloc (x := .cells #[bP (Y.pi (put ti (putAll ((kidsT t).take i) S).2).1)] 61) hX3.out
            have hm4 : (w3.alloc (.cells #[.pointer (some ⟨Y.pi (put ti (putAll ((kidsT t).take i) S).2).1, 0, none⟩)] 61)).cell? ⟨nb, 1, none⟩ = some va := (node_cells (blk_alloc (x := .cells #[bP (Y.pi (put ti (putAll ((kidsT t).take i) S).2).1)] 61) hD3.out)).2.1
            have hS5 := sb_of n4 e4
            have hN4 := hid n4
            have hX4 := hid e4
            clear n4 e4
            clear hHeld
            refine hK.out _ _ ?hs (fun hHeld => ?_)
            case hs => (first | exact hS5 | trivial | ((try dsimp only); go_keep) | ((try dsimp only); simp [*, World.cell?_alloc_some, World.cell?_setCell_far, World.cell?_setCell_other]))
            clear hK K
            try simp only [Act.put, List.setIfInBounds_toArray, List.set_cons_zero, List.set_cons_succ]
            refine wpAnyH_ready (rs := [9]) (by kernel_rfl) (by simp) (AllReadyH.cons rfl (fun K hK => ?_) AllReadyH.nil)
            have r4 : (w3.alloc (.cells #[bP (Y.pi (put ti (putAll ((kidsT t).take i) S).2).1)] 61)).ownsRow 0 61 1 va i _ := ownsRow_keep hR3.out (fun k hk => Below.heap_alloc _ _ _ (ownsRow_lt hR3.out hk))
            obtain ⟨v5, w5, hr5, hrow, hgrow, hblk⟩ := run_append_pn r4 (u := bP (Y.pi (put ti (putAll ((kidsT t).take i) S).2).1)) rfl (World.alloc_heap_new w3 _) (by omega) 50
            have ne4 : ∀ {k : Nat} {cs : Array Value} {T : TypeId} {fr : Nat × Nat}, T ≠ 61 → (w3.alloc (.cells #[bP (Y.pi (put ti (putAll ((kidsT t).take i) S).2).1)] 61)).heap[k]? = some (.cells cs T fr) → w5.heap[k]? = some (.cells cs T fr) := fun {k cs T fr} hT hk => (hgrow.block k (Array.getElem?_eq_some_iff.1 hk).1 (fun e => by
              obtain ⟨cs', fr', e2⟩ := Tb.row r4 k e.symm
              rw [hk] at e2
              cases e2
              exact hT rfl)).trans hk
            have n5 := ne4 (by decide) hN4.out
            have e5 := ne4 (by decide) hX4.out
            have d5 := ne4 (by decide) (blk_alloc (x := .cells #[bP (Y.pi (put ti (putAll ((kidsT t).take i) S).2).1)] 61) hD3.out)
            have hS5 := sb_of n5 e5
            have hm5 : w5.cell? ⟨nb, 1, none⟩ = some va := (node_cells d5).2.1
            have hf5 := frozenB d5 1
            have hN5 := hid n5
            have hX5 := hid e5
            have hrow' := hid hrow
            have hgrow' := hid hgrow
            have hblk' := hid hblk
            obtain ⟨a5, k5, hv5, _⟩ := row_slice hrow
            subst hv5
            clear r4 ne4 n5 e5 d5 hrow hgrow hblk
            refine step_append_run rfl (.tmp 47) (.tmp 51) 50 rfl rfl rfl hr5 ?_
            clear hr5
            clear hHeld
            refine hK.out _ _ ?hs (fun hHeld => ?_)
            case hs => (first | exact hS5 | trivial | ((try dsimp only); go_keep) | ((try dsimp only); simp [*, World.cell?_alloc_some, World.cell?_setCell_far, World.cell?_setCell_other]))
            clear hK K
            try simp only [Act.put, List.setIfInBounds_toArray, List.set_cons_zero, List.set_cons_succ]
            refine wpAnyH_take (i := 10) (v := ?vvq15) rfl (by kernel_rfl) (by kernel_rfl) (by kernel_rfl) (fun _ _ _ h => h) (Or.inl ⟨by rfl, ?yyq15⟩) (by assumption) ?rrq15
            case yyq15 => (intro w' hSw; (try dsimp only at hSw); go_simp; (try with_reducible rfl))
            try simp only [Act.put, List.setIfInBounds_toArray, List.set_cons_zero, List.set_cons_succ]
            refine wpAnyH_take (i := 11) (v := ?vvq16) rfl (by kernel_rfl) (by kernel_rfl) (by kernel_rfl) (fun _ _ _ h => h) (Or.inl ⟨by rfl, ?yyq16⟩) (by assumption) ?rrq16
            case yyq16 => (intro w' hSw; (try dsimp only at hSw); go_simp; (try with_reducible rfl))
            try simp only [Act.put, List.setIfInBounds_toArray, List.set_cons_zero, List.set_cons_succ]
            refine wpAnyH_ready (rs := [12]) (by kernel_rfl) (by simp) (AllReadyH.cons rfl (fun K hK => ?_) AllReadyH.nil)
            go_simp
            have n6 := blk_other (a := ⟨nb, 1, none⟩) (v := .slice a5 (i + 1) k5) hN5.out (by show w.heap.size ≠ nb; omega)
            have e6 := blk_other (a := ⟨nb, 1, none⟩) (v := .slice a5 (i + 1) k5) hX5.out (by show bxn ≠ nb; omega)
            have hS5 := sb_of n6 e6
            clear n6 e6
            clear hHeld
            refine hK.out _ _ ?hs (fun hHeld => ?_)
            case hs => (first | exact hS5 | trivial | ((try dsimp only); go_keep) | ((try dsimp only); simp [*, World.cell?_alloc_some, World.cell?_setCell_far, World.cell?_setCell_other]))
            clear hK K
            try simp only [Act.put, List.setIfInBounds_toArray, List.set_cons_zero, List.set_cons_succ]
            refine wpAnyH_done (by kernel_rfl) ?_ _
            clear hHeld
            have hnx := hid (hN.out.next his.out hnn.out hnbw hc8.out hF8.out hV3'.out hx3'.out hc3'.out hle.out hrow'.out hgrow'.out hblk'.out rfl)
            clear hS5 hm8 hm3 hm4 hm5 hf5
            go_wp2
            go_roundg ((kidsT t).length - i)
            case measure => omega
            case rel => exact ⟨i + 1, _, Y, _, by simp, by omega, by omega, by rw [htk.out, putAll_snoc]; exact hnx⟩
          · go_simp
            have n4 := blk_alloc (x := .cells #[bP (Y.pi (put ti (putAll ((kidsT t).take i) S).2).1)] 61) hN3.out
            have e4 := blk_alloc (x := .cells #[bP (Y.pi (put ti (putAll ((kidsT t).take i) S).2).1)] 61) hX3.out
            have hm4 : (w3.alloc (.cells #[.pointer (some ⟨Y.pi (put ti (putAll ((kidsT t).take i) S).2).1, 0, none⟩)] 61)).cell? ⟨nb, 1, none⟩ = some va := (node_cells (blk_alloc (x := .cells #[bP (Y.pi (put ti (putAll ((kidsT t).take i) S).2).1)] 61) hD3.out)).2.1
            have hS5 := sb_of n4 e4
            have hN4 := hid n4
            have hX4 := hid e4
            clear n4 e4
            clear hHeld
            refine hK.out _ _ ?hs (fun hHeld => ?_)
            case hs => (first | exact hS5 | trivial | ((try dsimp only); go_keep) | ((try dsimp only); simp [*, World.cell?_alloc_some, World.cell?_setCell_far, World.cell?_setCell_other]))
            clear hK K
            try simp only [Act.put, List.setIfInBounds_toArray, List.set_cons_zero, List.set_cons_succ]
            refine wpAnyH_ready (rs := [4]) (by kernel_rfl) (by simp) (AllReadyH.cons rfl (fun K hK => ?_) AllReadyH.nil)
            go_simp
            have hS5 := sb_of hN4.out hX4.out
            clear hHeld
            refine hK.out _ _ ?hs (fun hHeld => ?_)
            case hs => (first | exact hS5 | trivial | ((try dsimp only); go_keep) | ((try dsimp only); simp [*, World.cell?_alloc_some, World.cell?_setCell_far, World.cell?_setCell_other]))
            clear hK K
            try simp only [Act.put, List.setIfInBounds_toArray, List.set_cons_zero, List.set_cons_succ]
            refine wpAnyH_ready (rs := [9]) (by kernel_rfl) (by simp) (AllReadyH.cons rfl (fun K hK => ?_) AllReadyH.nil)
            have r4 : (w3.alloc (.cells #[bP (Y.pi (put ti (putAll ((kidsT t).take i) S).2).1)] 61)).ownsRow 0 61 1 va i _ := ownsRow_keep hR3.out (fun k hk => Below.heap_alloc _ _ _ (ownsRow_lt hR3.out hk))
            obtain ⟨v5, w5, hr5, hrow, hgrow, hblk⟩ := run_append_pn r4 (u := bP (Y.pi (put ti (putAll ((kidsT t).take i) S).2).1)) rfl (World.alloc_heap_new w3 _) (by omega) 50
            have ne4 : ∀ {k : Nat} {cs : Array Value} {T : TypeId} {fr : Nat × Nat}, T ≠ 61 → (w3.alloc (.cells #[bP (Y.pi (put ti (putAll ((kidsT t).take i) S).2).1)] 61)).heap[k]? = some (.cells cs T fr) → w5.heap[k]? = some (.cells cs T fr) := fun {k cs T fr} hT hk => (hgrow.block k (Array.getElem?_eq_some_iff.1 hk).1 (fun e => by
              obtain ⟨cs', fr', e2⟩ := Tb.row r4 k e.symm
              rw [hk] at e2
              cases e2
              exact hT rfl)).trans hk
            have n5 := ne4 (by decide) hN4.out
            have e5 := ne4 (by decide) hX4.out
            have d5 := ne4 (by decide) (blk_alloc (x := .cells #[bP (Y.pi (put ti (putAll ((kidsT t).take i) S).2).1)] 61) hD3.out)
            have hS5 := sb_of n5 e5
            have hm5 : w5.cell? ⟨nb, 1, none⟩ = some va := (node_cells d5).2.1
            have hf5 := frozenB d5 1
            have hN5 := hid n5
            have hX5 := hid e5
            have hrow' := hid hrow
            have hgrow' := hid hgrow
            have hblk' := hid hblk
            obtain ⟨a5, k5, hv5, _⟩ := row_slice hrow
            subst hv5
            clear r4 ne4 n5 e5 d5 hrow hgrow hblk
            refine step_append_run rfl (.tmp 47) (.tmp 51) 50 rfl rfl rfl hr5 ?_
            clear hr5
            clear hHeld
            refine hK.out _ _ ?hs (fun hHeld => ?_)
            case hs => (first | exact hS5 | trivial | ((try dsimp only); go_keep) | ((try dsimp only); simp [*, World.cell?_alloc_some, World.cell?_setCell_far, World.cell?_setCell_other]))
            clear hK K
            try simp only [Act.put, List.setIfInBounds_toArray, List.set_cons_zero, List.set_cons_succ]
            refine wpAnyH_take (i := 10) (v := ?vvq17) rfl (by kernel_rfl) (by kernel_rfl) (by kernel_rfl) (fun _ _ _ h => h) (Or.inl ⟨by rfl, ?yyq17⟩) (by assumption) ?rrq17
            case yyq17 => (intro w' hSw; (try dsimp only at hSw); go_simp; (try with_reducible rfl))
            try simp only [Act.put, List.setIfInBounds_toArray, List.set_cons_zero, List.set_cons_succ]
            refine wpAnyH_take (i := 11) (v := ?vvq18) rfl (by kernel_rfl) (by kernel_rfl) (by kernel_rfl) (fun _ _ _ h => h) (Or.inl ⟨by rfl, ?yyq18⟩) (by assumption) ?rrq18
            case yyq18 => (intro w' hSw; (try dsimp only at hSw); go_simp; (try with_reducible rfl))
            try simp only [Act.put, List.setIfInBounds_toArray, List.set_cons_zero, List.set_cons_succ]
            refine wpAnyH_ready (rs := [12]) (by kernel_rfl) (by simp) (AllReadyH.cons rfl (fun K hK => ?_) AllReadyH.nil)
            go_simp
            have n6 := blk_other (a := ⟨nb, 1, none⟩) (v := .slice a5 (i + 1) k5) hN5.out (by show w.heap.size ≠ nb; omega)
            have e6 := blk_other (a := ⟨nb, 1, none⟩) (v := .slice a5 (i + 1) k5) hX5.out (by show bxn ≠ nb; omega)
            have hS5 := sb_of n6 e6
            clear n6 e6
            clear hHeld
            refine hK.out _ _ ?hs (fun hHeld => ?_)
            case hs => (first | exact hS5 | trivial | ((try dsimp only); go_keep) | ((try dsimp only); simp [*, World.cell?_alloc_some, World.cell?_setCell_far, World.cell?_setCell_other]))
            clear hK K
            try simp only [Act.put, List.setIfInBounds_toArray, List.set_cons_zero, List.set_cons_succ]
            refine wpAnyH_done (by kernel_rfl) ?_ _
            clear hHeld
            have hnx := hid (hN.out.next his.out hnn.out hnbw hc8.out hF8.out hV3'.out hx3'.out hc3'.out hle.out hrow'.out hgrow'.out hblk'.out rfl)
            clear hS5 hm8 hm3 hm4 hm5 hf5
            go_wp2
            go_roundg ((kidsT t).length - i)
            case measure => omega
            case rel => exact ⟨i + 1, _, Y, _, by simp, by omega, by omega, by rw [htk.out, putAll_snoc]; exact hnx⟩
      · obtain rfl : i = (kidsT t).length := by omega
        have i1 : ¬ ((kidsT t).length : Int) < ((kidsT t).length : Int) := by omega
        rw [List.take_length] at hN hPA
        go_wp2
        go_ret
        obtain ⟨f1, f2⟩ := hN.out.fin hPA.out.2.2.2.2 h.out hPA.out.1 hPA.out.2.1 hPA.out.2.2.1 hnbw hba.out.1
        refine ⟨Xi.node (putAll (kidsT t) S).2.G.n nb, ?_, f1, f2, hN.out.ch⟩
        show _ = Ending.returned (.pointer (some ⟨setF Xi.pi (putAll (kidsT t) S).2.G.n nb (putAll (kidsT t) S).2.G.n, 0, none⟩))
        rw [setF_same]
        rfl
  · have hr0 : (0 : Int) < (t.row : Int) := by omega
    have HM := met_row hS.out hVd4.out (row_le hok.out)
    have hrv : Hid (rvOf t.row = some t.row) := hid (by unfold rvOf; rw [if_neg h0])
    replace h0 := hid h0
    obtain ⟨y0, y1, y2, y3, y4, y5, y6⟩ := node_cells hnd
    have x1 : w4.cell? ⟨w.heap.size, 1, none⟩ = some (.map (some mR)) := by rw [cellB hB0'.out]; rfl
    replace hnd := hid hnd
    clear y0 y1 y2 y4 y5 y6
    go_upto_region 6 with (go_at_call 26; refine HM.mono ?_; clear HM; rintro e w5 ⟨b, Y, rfl, hyb, hV5, hx5, hc5⟩; have d5 := hVd4.out.stay hc5 hnd.out; have y5 := (node_cells d5).2.2.2.1; have f5 := frozenB d5 3; have hD5 := hid d5; replace hV5 := hid hV5; replace hx5 := hid hx5; replace hc5 := hid hc5; replace hyb := hid hyb; clear d5)
    have c6 : Ch (fun k => k = nb) w5 (w5.setCell ⟨nb, 3, none⟩ (.pointer (some ⟨b, 0, none⟩))) := Ch.setCell w5 _ _ rfl
    have hapn := hV5.out.apart hD5.out
    have hV6 := (hV5.out.far c6 (fun k e => by subst e; exact ⟨hfn, fun e => hapn (.inl e), fun e => hapn (.inr e)⟩)).mono (F' := F4) (fun _ h => .inl h) hVd4.out.fT hVd4.out.fR
    have hnd6 : (w5.setCell ⟨nb, 3, none⟩ (.pointer (some ⟨b, 0, none⟩))).heap[nb]? = some (.cells #[.int .i64 (t.kind : Nat), .slice none 0 0, .slice s3 (bagL t.ops).length k3, oP (some b), .pointer none, .int .i64 0, .int .i64 0] 78 (0, 0)) := by rw [blk_set hD5.out]; rfl
    have hb6 := (hbg.out.maps hVd4.out hc5.out).on c6 (fun k hk e => by
      obtain ⟨cs, fr, e2⟩ := (hbg.out.maps hVd4.out hc5.out).tb k hk
      rw [e, hD5.out] at e2
      cases e2)
    have hB06 := hid (blk_other (a := ⟨nb, 3, none⟩) (v := .pointer (some ⟨b, 0, none⟩)) (hVd4.out.stay hc5.out hB0'.out) (by show w.heap.size ≠ nb; omega))
    have hB16 : Hid (Bx _ _ _ _ _ _ _) := hid (blk_other (a := ⟨nb, 3, none⟩) (v := .pointer (some ⟨b, 0, none⟩)) (hVd4.out.stay hc5.out hB1'.out) (by show w.heap.size + 1 ≠ nb; omega))
    have hp6 := (hp4.out.step hc5.out (fun k hk => by rcases hk with rfl | rfl; exact hp4.out.t; exact hp4.out.r)).step c6 (fun k e => by have := hp.out.size; omega)
    have hcw6 := ((hcw4.out.mono (fun _ h => h.elim)).trans hc5.out (fun _ h => .inl h)).trans c6 (fun k e => .inr (by omega))
    have hN0 := hid (hN00 (rp := some b) hV6 hnd6 hb6 hp6 hB06.out ((XA.refl w _ X).trans hx5.out (Nat.le_refl _) hcw4.out.size) hcw6 (by rw [hrv.out]; exact ⟨hyb.out, by simp⟩))
    obtain ⟨b0, b1, b2, b3, b4⟩ := hB16.out.cells
    clear hN00 hVd4 hnd hbg hp4 hB0' hcw4 c6 hapn hV6 hnd6 hb6 hp6 hcw6 hV5 hx5 hc5 hyb hD5 y5 f5 x1 y3
    generalize w5.setCell ⟨nb, 3, none⟩ (.pointer (some ⟨b, 0, none⟩)) = w6 at *
    obtain ⟨rp, hrp⟩ : ∃ rp : Option Nat, rp = some b := ⟨_, rfl⟩
    rw [← hrp] at hN0
    replace hrp := hid hrp
    obtain ⟨F0, hF0⟩ : ∃ F0, F0 = F4 := ⟨_, rfl⟩
    rw [← hF0] at hN0
    replace hF0 := hid hF0
    generalize Y = X0 at *
    go_wp2
    go_loopg [39] ((kidsT t).length + 1) (fun q v39 wr => ∃ (i : Nat) (va : Value) (Xi : Gx) (Fi : Nat → Prop), v39 = .int .i64 (i : Nat) ∧ i ≤ (kidsT t).length ∧ q = (kidsT t).length + 1 - i ∧ Hid (NdW w0 w S X F mT mR nb w.heap.size t (.slice s3 (bagL t.ops).length k3) rp (rvOf t.row) i va (putAll ((kidsT t).take i) S).1 (putAll ((kidsT t).take i) S).2 Xi Fi wr))
    case atStart => exact ⟨0, .slice none 0 0, X0, F0, rfl, by omega, by omega, hN0⟩
    case round =>
      clear hN0
      obtain ⟨i, va, Xi, Fi, rfl, hi, rfl, hN⟩ := hrel
      have hPA := hid (putAll_ok ((kidsT t).take i) (fun x hx => kids_ok hok.out x (List.mem_of_mem_take hx)) S hS.out)
      by_cases e : i < (kidsT t).length
      · have i0 : (0 : Int) ≤ i := by omega
        have i1 : (i : Int) < ((kidsT t).length : Int) := by omega
        have hwi : IntKind.i64.wrap ((i : Int) + 1) = (i : Int) + 1 := IntWalk.i64_in _ (by omega)
        obtain ⟨ti, hti⟩ : ∃ x, (kidsT t)[i]? = some x := ⟨(kidsT t)[i], by simp⟩
        obtain ⟨g, o, os', az', hsg, hel, hist⟩ := hkid.out i ti hti
        obtain ⟨qa, qc, qb, ql, qd, hos2, haz2, -⟩ := hist.slices
        subst hos2 haz2
        subst hsg
        obtain ⟨z0, z1, z2, z3, z4⟩ := hN.out.ps.el hel
        have htim := List.mem_of_getElem? hti
        have htk := hid (show (kidsT t).take (i + 1) = (kidsT t).take i ++ [ti] by rw [List.take_add_one, hti]; rfl)
        have hpo := Un.put_ok ti (kids_ok hok.out ti htim) _ hPA.out.1
        have hle := hid hpo.2.2.1
        have his := hid hPA.out.2.1
        have hnn := hid hPA.out.2.2.1
        clear hpo
        go_upto_region 9 with (fail)
        have hc8 := hid ((al_ch wr (tyB ti.kind ti.num ti.row (.slice qa ti.ops.length qc) (.slice qb ql qd))).trans (Ch.drew (fun _ => False) _) (fun _ h => h.elim))
        have hbx : (wr.alloc (tyB ti.kind ti.num ti.row (.slice qa ti.ops.length qc) (.slice qb ql qd))).heap[wr.heap.size]? = some (tyB ti.kind ti.num ti.row (.slice qa ti.ops.length qc) (.slice qb ql qd)) := World.alloc_heap_new wr _
        have hbxn : nb < wr.heap.size := (Array.getElem?_eq_some_iff.1 hN.out.nd).1
        have keep8 : ∀ {k : Nat} {o : Obj}, wr.heap[k]? = some o → (wr.alloc (tyB ti.kind ti.num ti.row (.slice qa ti.ops.length qc) (.slice qb ql qd))).heap[k]? = some o := fun hk => blk_alloc hk
        have hN8 := hid (keep8 hN.out.bx)
        have hX8 := hid hbx
        have hD8 := hid (keep8 hN.out.nd)
        have hR8 := hid (ownsRow_keep (w' := wr.alloc (tyB ti.kind ti.num ti.row (.slice qa ti.ops.length qc) (.slice qb ql qd))) hN.out.row (fun k hk => Below.heap_alloc _ _ _ (ownsRow_lt hN.out.row hk)))
        rw [show ((putAll ((kidsT t).take i) S).1).map _ = _ from rfl] at hR8
        clear keep8 hbx z0 z1 z2 z3 z4
        generalize hW8 : wr.alloc (tyB ti.kind ti.num ti.row (.slice qa ti.ops.length qc) (.slice qb ql qd)) = W8 at *
        clear hW8
        generalize hbe : wr.heap.size = bxn at *
        clear hbe
        have hS0 := sb_of (w := W8.drew) hN8.out hX8.out
        have hm8 : W8.drew.cell? ⟨nb, 1, none⟩ = some va := (node_cells (w := W8.drew) hD8.out).2.1
        have hV8 := hid (hN.out.vm.quiet hc8.out)
        obtain ⟨F8, hF8⟩ : ∃ F8, F8 = Fg Fi wr W8.drew := ⟨_, rfl⟩
        have hVg : VM W8.drew (putAll ((kidsT t).take i) S).2 Xi F8 mT mR := by rw [hF8]; exact hN.out.vm.far hc8.out (fun _ h => h.elim)
        have hVa8 := hid (fun k hk => by
          obtain ⟨cs, fr, e9⟩ := Tb.row hR8.out k hk
          exact hV8.out.apart (k := k) (show W8.drew.heap[k]? = _ from e9))
        have HN := ih.out ti htim hVg hPA.out.1 (kids_ok hok.out ti htim) (by have := kidsT_parts ti htim; have := hpt.out; omega) (hN.out.ps.step hc8.out (fun _ h => h.elim)) hist
        replace hF8 := hid hF8
        replace hti := hid hti
        replace htim := hid htim
        replace hel := hid hel
        replace hist := hid hist
        replace hbxn := hid hbxn
        have hbn : bxn ≠ nb := by have := hbxn.out; omega
        have hwn : w.heap.size ≠ nb := by omega
        clear hVg
        refine wp_region_held_drew (S := (fun w' => (w'.cell? ⟨w.heap.size, 0, none⟩ = some (.map (some mT)) ∧ w'.cell? ⟨w.heap.size, 1, none⟩ = some (.map (some mR))) ∧ w'.cell? ⟨bxn, 0, none⟩ = some (.int .i64 (ti.kind : Nat)) ∧ w'.cell? ⟨bxn, 1, none⟩ = some (.int .i64 (ti.num : Nat)) ∧ w'.cell? ⟨bxn, 2, none⟩ = some (.int .i64 (ti.row : Nat)) ∧ w'.cell? ⟨bxn, 3, none⟩ = some (.slice qa ti.ops.length qc) ∧ w'.cell? ⟨bxn, 4, none⟩ = some (.slice qb ql qd))) (by kernel_rfl) (by first | trivial | ((try dsimp only); go_keep)) (fun hHeld => ?_)
        refine wpAnyH_take (i := 0) (v := ?vvq19) rfl (by kernel_rfl) (by kernel_rfl) (by kernel_rfl) (fun _ _ _ h => h) (Or.inl ⟨by rfl, ?yyq19⟩) (by assumption) ?rrq19
        case yyq19 => (intro w' hSw; (try dsimp only at hSw); go_simp; (try with_reducible rfl))
        try simp only [Act.put, List.setIfInBounds_toArray, List.set_cons_zero, List.set_cons_succ]
        refine wpAnyH_take (i := 1) (v := ?vvq20) rfl (by kernel_rfl) (by kernel_rfl) (by kernel_rfl) (fun _ _ _ h => h) (Or.inl ⟨by rfl, ?yyq20⟩) (by assumption) ?rrq20
        case yyq20 => (intro w' hSw; (try dsimp only at hSw); go_simp; (try with_reducible rfl))
        try simp only [Act.put, List.setIfInBounds_toArray, List.set_cons_zero, List.set_cons_succ]
        refine wpAnyH_take (i := 2) (v := ?vvq21) rfl (by kernel_rfl) (by kernel_rfl) (by kernel_rfl) (fun _ _ _ h => h) (Or.inl ⟨by rfl, ?yyq21⟩) (by assumption) ?rrq21
        case yyq21 => (intro w' hSw; (try dsimp only at hSw); go_simp; (try with_reducible rfl))
        try simp only [Act.put, List.setIfInBounds_toArray, List.set_cons_zero, List.set_cons_succ]
        refine wpAnyH_take (i := 3) (v := ?vvq22) rfl (by kernel_rfl) (by kernel_rfl) (by kernel_rfl) (fun _ _ _ h => h) (Or.inl ⟨by rfl, ?yyq22⟩) (by assumption) ?rrq22
        case yyq22 => (intro w' hSw; (try dsimp only at hSw); go_simp; (try with_reducible rfl))
        try simp only [Act.put, List.setIfInBounds_toArray, List.set_cons_zero, List.set_cons_succ]
        refine wpAnyH_take (i := 5) (v := ?vvq23) rfl (by kernel_rfl) (by kernel_rfl) (by kernel_rfl) (fun _ _ _ h => h) (Or.inl ⟨by rfl, ?yyq23⟩) (by assumption) ?rrq23
        case yyq23 => (intro w' hSw; (try dsimp only at hSw); go_simp; (try with_reducible rfl))
        try simp only [Act.put, List.setIfInBounds_toArray, List.set_cons_zero, List.set_cons_succ]
        refine wpAnyH_take (i := 6) (v := ?vvq24) rfl (by kernel_rfl) (by kernel_rfl) (by kernel_rfl) (fun _ _ _ h => h) (Or.inl ⟨by rfl, ?yyq24⟩) (by assumption) ?rrq24
        case yyq24 => (intro w' hSw; (try dsimp only at hSw); go_simp; (try with_reducible rfl))
        try simp only [Act.put, List.setIfInBounds_toArray, List.set_cons_zero, List.set_cons_succ]
        refine wpAnyH_ready (rs := [4, 7]) (by kernel_rfl) (by simp) (AllReadyH.cons rfl (fun K hK => ?_) (AllReadyH.cons rfl (fun K hK => ?_) AllReadyH.nil))
        · go_simp
          have hS5 := hS0
          clear hHeld
          refine hK.out _ _ ?hs (fun hHeld => ?_)
          case hs => (first | exact hS5 | trivial | ((try dsimp only); go_keep) | ((try dsimp only); simp [*, World.cell?_alloc_some, World.cell?_setCell_far, World.cell?_setCell_other]))
          clear hK K
          try simp only [Act.put, List.setIfInBounds_toArray, List.set_cons_zero, List.set_cons_succ]
          refine wpAnyH_ready (rs := [7]) (by kernel_rfl) (by simp) (AllReadyH.cons rfl (fun K hK => ?_) AllReadyH.nil)
          go_simp
          refine HN.mono ?_
          clear HN
          rintro e w3 ⟨Y, rfl, hV3, hx3, hc3⟩
          have n3 := hV8.out.stay hc3 hN8.out
          have e3 := hV8.out.stay hc3 hX8.out
          have d3 := hV8.out.stay hc3 hD8.out
          have hS5 := sb_of n3 e3
          have hm3 : w3.cell? ⟨nb, 1, none⟩ = some va := (node_cells d3).2.1
          have r3 : w3.ownsRow 0 61 1 va i _ := ownsRow_keep hR8.out (fun k hk => hc3.same k (ownsRow_lt hR8.out hk) (hVa8.out k hk))
          have hD3 := hid d3
          have hN3 := hid n3
          have hX3 := hid e3
          have hR3 := hid r3
          have hV3' := hid hV3
          have hx3' := hid hx3
          have hc3' := hid hc3
          clear n3 e3 d3 r3 hV3 hx3 hc3
          dsimp only
          clear hHeld
          refine hK.out _ _ ?hs (fun hHeld => ?_)
          case hs => (first | exact hS5 | trivial | ((try dsimp only); go_keep) | ((try dsimp only); simp [*, World.cell?_alloc_some, World.cell?_setCell_far, World.cell?_setCell_other]))
          clear hK K
          try simp only [Act.put, List.setIfInBounds_toArray, List.set_cons_zero, List.set_cons_succ]
          refine wpAnyH_ready (rs := [8]) (by kernel_rfl) (by simp) (AllReadyH.cons rfl (fun K hK => ?_) AllReadyH.nil)
          go_simp
          have n4 := blk_alloc (x := .cells #[bP (Y.pi (put ti (putAll ((kidsT t).take i) S).2).1)] 61) hN3.out
          have e4 := blk_alloc (x := .cells #[bP (Y.pi (put ti (putAll ((kidsT t).take i) S).2).1)] 61) hX3.out
          have hm4 : (w3.alloc (.cells #[.pointer (some ⟨Y.pi (put ti (putAll ((kidsT t).take i) S).2).1, 0, none⟩)] 61)).cell? ⟨nb, 1, none⟩ = some va := (node_cells (blk_alloc (x := .cells #[bP (Y.pi (put ti (putAll ((kidsT t).take i) S).2).1)] 61) hD3.out)).2.1
          have hS5 := sb_of n4 e4
          have hN4 := hid n4
          have hX4 := hid e4
          clear n4 e4
          clear hHeld
          refine hK.out _ _ ?hs (fun hHeld => ?_)
          case hs => (first | exact hS5 | trivial | ((try dsimp only); go_keep) | ((try dsimp only); simp [*, World.cell?_alloc_some, World.cell?_setCell_far, World.cell?_setCell_other]))
          clear hK K
          try simp only [Act.put, List.setIfInBounds_toArray, List.set_cons_zero, List.set_cons_succ]
          refine wpAnyH_ready (rs := [9]) (by kernel_rfl) (by simp) (AllReadyH.cons rfl (fun K hK => ?_) AllReadyH.nil)
          have r4 : (w3.alloc (.cells #[bP (Y.pi (put ti (putAll ((kidsT t).take i) S).2).1)] 61)).ownsRow 0 61 1 va i _ := ownsRow_keep hR3.out (fun k hk => Below.heap_alloc _ _ _ (ownsRow_lt hR3.out hk))
          obtain ⟨v5, w5, hr5, hrow, hgrow, hblk⟩ := run_append_pn r4 (u := bP (Y.pi (put ti (putAll ((kidsT t).take i) S).2).1)) rfl (World.alloc_heap_new w3 _) (by omega) 50
          have ne4 : ∀ {k : Nat} {cs : Array Value} {T : TypeId} {fr : Nat × Nat}, T ≠ 61 → (w3.alloc (.cells #[bP (Y.pi (put ti (putAll ((kidsT t).take i) S).2).1)] 61)).heap[k]? = some (.cells cs T fr) → w5.heap[k]? = some (.cells cs T fr) := fun {k cs T fr} hT hk => (hgrow.block k (Array.getElem?_eq_some_iff.1 hk).1 (fun e => by
            obtain ⟨cs', fr', e2⟩ := Tb.row r4 k e.symm
            rw [hk] at e2
            cases e2
            exact hT rfl)).trans hk
          have n5 := ne4 (by decide) hN4.out
          have e5 := ne4 (by decide) hX4.out
          have d5 := ne4 (by decide) (blk_alloc (x := .cells #[bP (Y.pi (put ti (putAll ((kidsT t).take i) S).2).1)] 61) hD3.out)
          have hS5 := sb_of n5 e5
          have hm5 : w5.cell? ⟨nb, 1, none⟩ = some va := (node_cells d5).2.1
          have hf5 := frozenB d5 1
          have hN5 := hid n5
          have hX5 := hid e5
          have hrow' := hid hrow
          have hgrow' := hid hgrow
          have hblk' := hid hblk
          obtain ⟨a5, k5, hv5, _⟩ := row_slice hrow
          subst hv5
          clear r4 ne4 n5 e5 d5 hrow hgrow hblk
          refine step_append_run rfl (.tmp 47) (.tmp 51) 50 rfl rfl rfl hr5 ?_
          clear hr5
          clear hHeld
          refine hK.out _ _ ?hs (fun hHeld => ?_)
          case hs => (first | exact hS5 | trivial | ((try dsimp only); go_keep) | ((try dsimp only); simp [*, World.cell?_alloc_some, World.cell?_setCell_far, World.cell?_setCell_other]))
          clear hK K
          try simp only [Act.put, List.setIfInBounds_toArray, List.set_cons_zero, List.set_cons_succ]
          refine wpAnyH_take (i := 10) (v := ?vvq25) rfl (by kernel_rfl) (by kernel_rfl) (by kernel_rfl) (fun _ _ _ h => h) (Or.inl ⟨by rfl, ?yyq25⟩) (by assumption) ?rrq25
          case yyq25 => (intro w' hSw; (try dsimp only at hSw); go_simp; (try with_reducible rfl))
          try simp only [Act.put, List.setIfInBounds_toArray, List.set_cons_zero, List.set_cons_succ]
          refine wpAnyH_take (i := 11) (v := ?vvq26) rfl (by kernel_rfl) (by kernel_rfl) (by kernel_rfl) (fun _ _ _ h => h) (Or.inl ⟨by rfl, ?yyq26⟩) (by assumption) ?rrq26
          case yyq26 => (intro w' hSw; (try dsimp only at hSw); go_simp; (try with_reducible rfl))
          try simp only [Act.put, List.setIfInBounds_toArray, List.set_cons_zero, List.set_cons_succ]
          refine wpAnyH_ready (rs := [12]) (by kernel_rfl) (by simp) (AllReadyH.cons rfl (fun K hK => ?_) AllReadyH.nil)
          go_simp
          have n6 := blk_other (a := ⟨nb, 1, none⟩) (v := .slice a5 (i + 1) k5) hN5.out (by show w.heap.size ≠ nb; omega)
          have e6 := blk_other (a := ⟨nb, 1, none⟩) (v := .slice a5 (i + 1) k5) hX5.out (by show bxn ≠ nb; omega)
          have hS5 := sb_of n6 e6
          clear n6 e6
          clear hHeld
          refine hK.out _ _ ?hs (fun hHeld => ?_)
          case hs => (first | exact hS5 | trivial | ((try dsimp only); go_keep) | ((try dsimp only); simp [*, World.cell?_alloc_some, World.cell?_setCell_far, World.cell?_setCell_other]))
          clear hK K
          try simp only [Act.put, List.setIfInBounds_toArray, List.set_cons_zero, List.set_cons_succ]
          refine wpAnyH_done (by kernel_rfl) ?_ _
          clear hHeld
          have hnx := hid (hN.out.next his.out hnn.out hnbw hc8.out hF8.out hV3'.out hx3'.out hc3'.out hle.out hrow'.out hgrow'.out hblk'.out rfl)
          clear hS5 hm8 hm3 hm4 hm5 hf5
          go_wp2
          go_roundg ((kidsT t).length - i)
          case measure => omega
          case rel => exact ⟨i + 1, _, Y, _, by simp, by omega, by omega, by rw [htk.out, putAll_snoc]; exact hnx⟩
        · go_simp
          refine HN.mono ?_
          clear HN
          rintro e w3 ⟨Y, rfl, hV3, hx3, hc3⟩
          have n3 := hV8.out.stay hc3 hN8.out
          have e3 := hV8.out.stay hc3 hX8.out
          have d3 := hV8.out.stay hc3 hD8.out
          have hS5 := sb_of n3 e3
          have hm3 : w3.cell? ⟨nb, 1, none⟩ = some va := (node_cells d3).2.1
          have r3 : w3.ownsRow 0 61 1 va i _ := ownsRow_keep hR8.out (fun k hk => hc3.same k (ownsRow_lt hR8.out hk) (hVa8.out k hk))
          have hD3 := hid d3
          have hN3 := hid n3
          have hX3 := hid e3
          have hR3 := hid r3
          have hV3' := hid hV3
          have hx3' := hid hx3
          have hc3' := hid hc3
          clear n3 e3 d3 r3 hV3 hx3 hc3
          dsimp only
          clear hHeld
          refine hK.out _ _ ?hs (fun hHeld => ?_)
          case hs => (first | exact hS5 | trivial | ((try dsimp only); go_keep) | ((try dsimp only); simp [*, World.cell?_alloc_some, World.cell?_setCell_far, World.cell?_setCell_other]))
          clear hK K
          try simp only [Act.put, List.setIfInBounds_toArray, List.set_cons_zero, List.set_cons_succ]
          refine wpAnyH_ready (rs := [4, 8]) (by kernel_rfl) (by simp) (AllReadyH.cons rfl (fun K hK => ?_) (AllReadyH.cons rfl (fun K hK => ?_) AllReadyH.nil))
          · go_simp
            have hS5 := sb_of hN3.out hX3.out
            clear hHeld
            refine hK.out _ _ ?hs (fun hHeld => ?_)
            case hs => (first | exact hS5 | trivial | ((try dsimp only); go_keep) | ((try dsimp only); simp [*, World.cell?_alloc_some, World.cell?_setCell_far, World.cell?_setCell_other]))
            clear hK K
            try simp only [Act.put, List.setIfInBounds_toArray, List.set_cons_zero, List.set_cons_succ]
            refine wpAnyH_ready (rs := [8]) (by kernel_rfl) (by simp) (AllReadyH.cons rfl (fun K hK => ?_) AllReadyH.nil)
            go_simp
            have n4 := blk_alloc (x := .cells #[bP (Y.pi (put ti (putAll ((kidsT t).take i) S).2).1)] 61) hN3.out
            have e4 := blk_alloc (x := .cells #[bP (Y.pi (put ti (putAll ((kidsT t).take i) S).2).1)] 61) hX3.out
            have hm4 : (w3.alloc (.cells #[.pointer (some ⟨Y.pi (put ti (putAll ((kidsT t).take i) S).2).1, 0, none⟩)] 61)).cell? ⟨nb, 1, none⟩ = some va := (node_cells (blk_alloc (x := .cells #[bP (Y.pi (put ti (putAll ((kidsT t).take i) S).2).1)] 61) hD3.out)).2.1
            have hS5 := sb_of n4 e4
            have hN4 := hid n4
            have hX4 := hid e4
            clear n4 e4
            clear hHeld
            refine hK.out _ _ ?hs (fun hHeld => ?_)
            case hs => (first | exact hS5 | trivial | ((try dsimp only); go_keep) | ((try dsimp only); simp [*, World.cell?_alloc_some, World.cell?_setCell_far, World.cell?_setCell_other]))
            clear hK K
            try simp only [Act.put, List.setIfInBounds_toArray, List.set_cons_zero, List.set_cons_succ]
            refine wpAnyH_ready (rs := [9]) (by kernel_rfl) (by simp) (AllReadyH.cons rfl (fun K hK => ?_) AllReadyH.nil)
            have r4 : (w3.alloc (.cells #[bP (Y.pi (put ti (putAll ((kidsT t).take i) S).2).1)] 61)).ownsRow 0 61 1 va i _ := ownsRow_keep hR3.out (fun k hk => Below.heap_alloc _ _ _ (ownsRow_lt hR3.out hk))
            obtain ⟨v5, w5, hr5, hrow, hgrow, hblk⟩ := run_append_pn r4 (u := bP (Y.pi (put ti (putAll ((kidsT t).take i) S).2).1)) rfl (World.alloc_heap_new w3 _) (by omega) 50
            have ne4 : ∀ {k : Nat} {cs : Array Value} {T : TypeId} {fr : Nat × Nat}, T ≠ 61 → (w3.alloc (.cells #[bP (Y.pi (put ti (putAll ((kidsT t).take i) S).2).1)] 61)).heap[k]? = some (.cells cs T fr) → w5.heap[k]? = some (.cells cs T fr) := fun {k cs T fr} hT hk => (hgrow.block k (Array.getElem?_eq_some_iff.1 hk).1 (fun e => by
              obtain ⟨cs', fr', e2⟩ := Tb.row r4 k e.symm
              rw [hk] at e2
              cases e2
              exact hT rfl)).trans hk
            have n5 := ne4 (by decide) hN4.out
            have e5 := ne4 (by decide) hX4.out
            have d5 := ne4 (by decide) (blk_alloc (x := .cells #[bP (Y.pi (put ti (putAll ((kidsT t).take i) S).2).1)] 61) hD3.out)
            have hS5 := sb_of n5 e5
            have hm5 : w5.cell? ⟨nb, 1, none⟩ = some va := (node_cells d5).2.1
            have hf5 := frozenB d5 1
            have hN5 := hid n5
            have hX5 := hid e5
            have hrow' := hid hrow
            have hgrow' := hid hgrow
            have hblk' := hid hblk
            obtain ⟨a5, k5, hv5, _⟩ := row_slice hrow
            subst hv5
            clear r4 ne4 n5 e5 d5 hrow hgrow hblk
            refine step_append_run rfl (.tmp 47) (.tmp 51) 50 rfl rfl rfl hr5 ?_
            clear hr5
            clear hHeld
            refine hK.out _ _ ?hs (fun hHeld => ?_)
            case hs => (first | exact hS5 | trivial | ((try dsimp only); go_keep) | ((try dsimp only); simp [*, World.cell?_alloc_some, World.cell?_setCell_far, World.cell?_setCell_other]))
            clear hK K
            try simp only [Act.put, List.setIfInBounds_toArray, List.set_cons_zero, List.set_cons_succ]
            refine wpAnyH_take (i := 10) (v := ?vvq27) rfl (by kernel_rfl) (by kernel_rfl) (by kernel_rfl) (fun _ _ _ h => h) (Or.inl ⟨by rfl, ?yyq27⟩) (by assumption) ?rrq27
            case yyq27 => (intro w' hSw; (try dsimp only at hSw); go_simp; (try with_reducible rfl))
            try simp only [Act.put, List.setIfInBounds_toArray, List.set_cons_zero, List.set_cons_succ]
            refine wpAnyH_take (i := 11) (v := ?vvq28) rfl (by kernel_rfl) (by kernel_rfl) (by kernel_rfl) (fun _ _ _ h => h) (Or.inl ⟨by rfl, ?yyq28⟩) (by assumption) ?rrq28
            case yyq28 => (intro w' hSw; (try dsimp only at hSw); go_simp; (try with_reducible rfl))
            try simp only [Act.put, List.setIfInBounds_toArray, List.set_cons_zero, List.set_cons_succ]
            refine wpAnyH_ready (rs := [12]) (by kernel_rfl) (by simp) (AllReadyH.cons rfl (fun K hK => ?_) AllReadyH.nil)
            go_simp
            have n6 := blk_other (a := ⟨nb, 1, none⟩) (v := .slice a5 (i + 1) k5) hN5.out (by show w.heap.size ≠ nb; omega)
            have e6 := blk_other (a := ⟨nb, 1, none⟩) (v := .slice a5 (i + 1) k5) hX5.out (by show bxn ≠ nb; omega)
            have hS5 := sb_of n6 e6
            clear n6 e6
            clear hHeld
            refine hK.out _ _ ?hs (fun hHeld => ?_)
            case hs => (first | exact hS5 | trivial | ((try dsimp only); go_keep) | ((try dsimp only); simp [*, World.cell?_alloc_some, World.cell?_setCell_far, World.cell?_setCell_other]))
            clear hK K
            try simp only [Act.put, List.setIfInBounds_toArray, List.set_cons_zero, List.set_cons_succ]
            refine wpAnyH_done (by kernel_rfl) ?_ _
            clear hHeld
            have hnx := hid (hN.out.next his.out hnn.out hnbw hc8.out hF8.out hV3'.out hx3'.out hc3'.out hle.out hrow'.out hgrow'.out hblk'.out rfl)
            clear hS5 hm8 hm3 hm4 hm5 hf5
            go_wp2
            go_roundg ((kidsT t).length - i)
            case measure => omega
            case rel => exact ⟨i + 1, _, Y, _, by simp, by omega, by omega, by rw [htk.out, putAll_snoc]; exact hnx⟩
          · go_simp
            have n4 := blk_alloc (x := .cells #[bP (Y.pi (put ti (putAll ((kidsT t).take i) S).2).1)] 61) hN3.out
            have e4 := blk_alloc (x := .cells #[bP (Y.pi (put ti (putAll ((kidsT t).take i) S).2).1)] 61) hX3.out
            have hm4 : (w3.alloc (.cells #[.pointer (some ⟨Y.pi (put ti (putAll ((kidsT t).take i) S).2).1, 0, none⟩)] 61)).cell? ⟨nb, 1, none⟩ = some va := (node_cells (blk_alloc (x := .cells #[bP (Y.pi (put ti (putAll ((kidsT t).take i) S).2).1)] 61) hD3.out)).2.1
            have hS5 := sb_of n4 e4
            have hN4 := hid n4
            have hX4 := hid e4
            clear n4 e4
            clear hHeld
            refine hK.out _ _ ?hs (fun hHeld => ?_)
            case hs => (first | exact hS5 | trivial | ((try dsimp only); go_keep) | ((try dsimp only); simp [*, World.cell?_alloc_some, World.cell?_setCell_far, World.cell?_setCell_other]))
            clear hK K
            try simp only [Act.put, List.setIfInBounds_toArray, List.set_cons_zero, List.set_cons_succ]
            refine wpAnyH_ready (rs := [4]) (by kernel_rfl) (by simp) (AllReadyH.cons rfl (fun K hK => ?_) AllReadyH.nil)
            go_simp
            have hS5 := sb_of hN4.out hX4.out
            clear hHeld
            refine hK.out _ _ ?hs (fun hHeld => ?_)
            case hs => (first | exact hS5 | trivial | ((try dsimp only); go_keep) | ((try dsimp only); simp [*, World.cell?_alloc_some, World.cell?_setCell_far, World.cell?_setCell_other]))
            clear hK K
            try simp only [Act.put, List.setIfInBounds_toArray, List.set_cons_zero, List.set_cons_succ]
            refine wpAnyH_ready (rs := [9]) (by kernel_rfl) (by simp) (AllReadyH.cons rfl (fun K hK => ?_) AllReadyH.nil)
            have r4 : (w3.alloc (.cells #[bP (Y.pi (put ti (putAll ((kidsT t).take i) S).2).1)] 61)).ownsRow 0 61 1 va i _ := ownsRow_keep hR3.out (fun k hk => Below.heap_alloc _ _ _ (ownsRow_lt hR3.out hk))
            obtain ⟨v5, w5, hr5, hrow, hgrow, hblk⟩ := run_append_pn r4 (u := bP (Y.pi (put ti (putAll ((kidsT t).take i) S).2).1)) rfl (World.alloc_heap_new w3 _) (by omega) 50
            have ne4 : ∀ {k : Nat} {cs : Array Value} {T : TypeId} {fr : Nat × Nat}, T ≠ 61 → (w3.alloc (.cells #[bP (Y.pi (put ti (putAll ((kidsT t).take i) S).2).1)] 61)).heap[k]? = some (.cells cs T fr) → w5.heap[k]? = some (.cells cs T fr) := fun {k cs T fr} hT hk => (hgrow.block k (Array.getElem?_eq_some_iff.1 hk).1 (fun e => by
              obtain ⟨cs', fr', e2⟩ := Tb.row r4 k e.symm
              rw [hk] at e2
              cases e2
              exact hT rfl)).trans hk
            have n5 := ne4 (by decide) hN4.out
            have e5 := ne4 (by decide) hX4.out
            have d5 := ne4 (by decide) (blk_alloc (x := .cells #[bP (Y.pi (put ti (putAll ((kidsT t).take i) S).2).1)] 61) hD3.out)
            have hS5 := sb_of n5 e5
            have hm5 : w5.cell? ⟨nb, 1, none⟩ = some va := (node_cells d5).2.1
            have hf5 := frozenB d5 1
            have hN5 := hid n5
            have hX5 := hid e5
            have hrow' := hid hrow
            have hgrow' := hid hgrow
            have hblk' := hid hblk
            obtain ⟨a5, k5, hv5, _⟩ := row_slice hrow
            subst hv5
            clear r4 ne4 n5 e5 d5 hrow hgrow hblk
            refine step_append_run rfl (.tmp 47) (.tmp 51) 50 rfl rfl rfl hr5 ?_
            clear hr5
            clear hHeld
            refine hK.out _ _ ?hs (fun hHeld => ?_)
            case hs => (first | exact hS5 | trivial | ((try dsimp only); go_keep) | ((try dsimp only); simp [*, World.cell?_alloc_some, World.cell?_setCell_far, World.cell?_setCell_other]))
            clear hK K
            try simp only [Act.put, List.setIfInBounds_toArray, List.set_cons_zero, List.set_cons_succ]
            refine wpAnyH_take (i := 10) (v := ?vvq29) rfl (by kernel_rfl) (by kernel_rfl) (by kernel_rfl) (fun _ _ _ h => h) (Or.inl ⟨by rfl, ?yyq29⟩) (by assumption) ?rrq29
            case yyq29 => (intro w' hSw; (try dsimp only at hSw); go_simp; (try with_reducible rfl))
            try simp only [Act.put, List.setIfInBounds_toArray, List.set_cons_zero, List.set_cons_succ]
            refine wpAnyH_take (i := 11) (v := ?vvq30) rfl (by kernel_rfl) (by kernel_rfl) (by kernel_rfl) (fun _ _ _ h => h) (Or.inl ⟨by rfl, ?yyq30⟩) (by assumption) ?rrq30
            case yyq30 => (intro w' hSw; (try dsimp only at hSw); go_simp; (try with_reducible rfl))
            try simp only [Act.put, List.setIfInBounds_toArray, List.set_cons_zero, List.set_cons_succ]
            refine wpAnyH_ready (rs := [12]) (by kernel_rfl) (by simp) (AllReadyH.cons rfl (fun K hK => ?_) AllReadyH.nil)
            go_simp
            have n6 := blk_other (a := ⟨nb, 1, none⟩) (v := .slice a5 (i + 1) k5) hN5.out (by show w.heap.size ≠ nb; omega)
            have e6 := blk_other (a := ⟨nb, 1, none⟩) (v := .slice a5 (i + 1) k5) hX5.out (by show bxn ≠ nb; omega)
            have hS5 := sb_of n6 e6
            clear n6 e6
            clear hHeld
            refine hK.out _ _ ?hs (fun hHeld => ?_)
            case hs => (first | exact hS5 | trivial | ((try dsimp only); go_keep) | ((try dsimp only); simp [*, World.cell?_alloc_some, World.cell?_setCell_far, World.cell?_setCell_other]))
            clear hK K
            try simp only [Act.put, List.setIfInBounds_toArray, List.set_cons_zero, List.set_cons_succ]
            refine wpAnyH_done (by kernel_rfl) ?_ _
            clear hHeld
            have hnx := hid (hN.out.next his.out hnn.out hnbw hc8.out hF8.out hV3'.out hx3'.out hc3'.out hle.out hrow'.out hgrow'.out hblk'.out rfl)
            clear hS5 hm8 hm3 hm4 hm5 hf5
            go_wp2
            go_roundg ((kidsT t).length - i)
            case measure => omega
            case rel => exact ⟨i + 1, _, Y, _, by simp, by omega, by omega, by rw [htk.out, putAll_snoc]; exact hnx⟩
      · obtain rfl : i = (kidsT t).length := by omega
        have i1 : ¬ ((kidsT t).length : Int) < ((kidsT t).length : Int) := by omega
        rw [List.take_length] at hN hPA
        go_wp2
        go_ret
        obtain ⟨f1, f2⟩ := hN.out.fin hPA.out.2.2.2.2 h.out hPA.out.1 hPA.out.2.1 hPA.out.2.2.1 hnbw hba.out.1
        refine ⟨Xi.node (putAll (kidsT t) S).2.G.n nb, ?_, f1, f2, hN.out.ch⟩
        show _ = Ending.returned (.pointer (some ⟨setF Xi.pi (putAll (kidsT t) S).2.G.n nb (putAll (kidsT t) S).2.G.n, 0, none⟩))
        rw [setF_same]
        rfl
end Go.Proofs.Ytcogpcalghfghaa
