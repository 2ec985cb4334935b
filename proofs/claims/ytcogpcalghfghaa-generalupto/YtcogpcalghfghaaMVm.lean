/-
  The program's Node: any type. Vars of none. check, add.
  The program's check.
  The program's add.
-/
import Derived.Test.YtcogpcalghfghaaVl
set_option linter.unusedVariables false
set_option linter.unusedSimpArgs false
namespace Go.Proofs.Ytcogpcalghfghaa
open Go.RowKit
open Un (Bag Nm Gr St put rvOf bagL)
variable {F : Nat → Prop}

theorem Node_any (w0 : World) (t : Ty.P) : NodeOK w0 t := by
  induction t with
  | var n => exact Node_var w0 n
  | int => exact Node_gen (t := .int) (by show (1 : Nat) ≠ 0; decide) (fun x hx => by cases hx)
  | bool => exact Node_gen (t := .bool) (by show (2 : Nat) ≠ 0; decide) (fun x hx => by cases hx)
  | unit => exact Node_gen (t := .unit) (by show (3 : Nat) ≠ 0; decide) (fun x hx => by cases hx)
  | list a ih => exact Node_gen (t := .list a) (by show (4 : Nat) ≠ 0; decide) (fun x hx => by obtain rfl := List.mem_singleton.1 hx; exact ih)
  | pair a b iha ihb =>
    refine Node_gen (t := .pair a b) (by show (5 : Nat) ≠ 0; decide) (fun x hx => ?_)
    have hx' : x = a ∨ x = b := by simpa [kidsT] using hx
    rcases hx' with e | e
    · rw [e]; exact @iha
    · rw [e]; exact @ihb
  | fn a b o r iha ihb =>
    refine Node_gen (t := .fn a b o r) (by show (6 : Nat) ≠ 0; decide) (fun x hx => ?_)
    have hx' : x = a ∨ x = b := by simpa [kidsT] using hx
    rcases hx' with e | e
    · rw [e]; exact @iha
    · rw [e]; exact @ihb
end Go.Proofs.Ytcogpcalghfghaa

namespace Go.Proofs.Ytcogpcalghfghaa
open Go.RowKit
open Un (Bag Nm Gr St put rvOf bagL)
variable {F : Nat → Prop}

/-- What check answers. -/
def CkP (G : Gr) (X : Gx) (F : Nat → Prop) (R : Nat) (w : World) (l : List Nat) (e : Ending) (w' : World) : Prop :=
  Ch (X.own G.n) w w' ∧ ((e = .returned (.int .i64 8) ∧ ∃ j ∈ l, ¬ G.Ends j) ∨ (e = .returned (.int .i64 10) ∧ (∀ j ∈ l, G.Ends j) ∧ ∃ j ∈ l, ∃ s, G.Parts j s ∧ 300 < s) ∨
    (e = .returned (.int .i64 0) ∧ (∀ j ∈ l, ∃ s, G.Parts j s ∧ s ≤ 300) ∧ ∃ Y, PG w' G Y F ∧ XM G R X Y))
theorem ne7 : (52 : TypeId) ≠ 78 := by decide
theorem ne8 : (52 : TypeId) ≠ 83 := by decide

set_option maxRecDepth 100000 in
set_option maxHeartbeats 8000000 in
theorem check_any {T : Nat} (hT : T < 100000000) {G : Gr} (hG : G.OK) (hB : G.Bd T) {w : World} {X : Gx} {sb : Nat} {vT vR sv : Value} {l : List Nat} (h : PG w G X F) (hl : ∀ j ∈ l, j < G.n) (hrd : ∀ i, i < G.n → X.rd i < l.length)
    (hs : w.heap[sb]? = some (.cells #[vT, vR, sv] 52 (0, 0))) (hA : ArgsT w (fun _ => False) sv (l.map X.pi)) (hn : l.length < 1000000) :
    Calls Try.prog 19 #[.pointer (some ⟨sb, 0, none⟩)] w fun e w' => CkP G X F l.length w l e w' := by
  obtain ⟨sa, ca, hsv, -⟩ := hA.sl
  subst hsv
  rw [List.length_map] at hA hs
  have c2 : w.cell? ⟨sb, 2, none⟩ = some (.slice sa l.length ca) := by rw [cellB hs]; rfl
  have hq0 : MQ G X l.length := fun i hi _ e => by have := hrd i hi; omega
  have hg0 : ∀ i, i < G.n → X.root i = i → ¬ (X.rd i = l.length ∧ X.pt i = 0) := fun i hi _ e => by have := hrd i hi; omega
  replace h := hid h
  replace hl := hid hl
  replace hrd := hid hrd
  replace hA := hid hA
  replace hq0 := hid hq0
  replace hg0 := hid hg0
  replace hs := hid hs
  go_enter Try.func19, Try.ntmps19
  go_wp2
  go_loopg [12, 3] (l.length + 1) (fun q v12 v3 wr => ∃ (i kd : Nat) (Xi : Gx), v12 = .int .i64 (i : Nat) ∧ v3 = .int .i64 (kd : Nat) ∧ i ≤ l.length ∧ q = l.length + 1 - i ∧ Hid (PG wr G Xi F) ∧ Hid (XM G l.length X Xi) ∧ Hid (Ch (X.own G.n) w wr) ∧
    Hid ((kd = 0 ∧ ∀ j ∈ l.take i, ∃ s, G.Parts j s ∧ s ≤ 300) ∨ (kd = 10 ∧ (∀ j ∈ l.take i, G.Ends j) ∧ ∃ j ∈ l.take i, ∃ s, G.Parts j s ∧ 300 < s)))
  case atStart => exact ⟨0, 0, X, rfl, rfl, by omega, by omega, h, hid (XM.refl hq0.out), Ch.refl _ _, hid (.inl ⟨rfl, by simp⟩)⟩
  case round =>
    clear c2
    obtain ⟨i, kd, Xi, rfl, rfl, hi, rfl, hP, hx, hc, hk⟩ := hrel
    have hs2 := h.out.stay hc.out hs.out ne7 ne8
    have c2 : wr.cell? ⟨sb, 2, none⟩ = some (.slice sa l.length ca) := by rw [cellB hs2]; rfl
    have hA2 := hid (hA.out.keep hc.out h.out.tg)
    replace hs2 := hid hs2
    by_cases e : i < l.length
    · have i0 : (0 : Int) ≤ i := by omega
      have i1 : (i : Int) < (l.length : Int) := by omega
      have hwi : IntKind.i64.wrap ((i : Int) + 1) = (i : Int) + 1 := IntWalk.i64_in _ (by omega)
      obtain ⟨ka, hka⟩ : ∃ x, l[i]? = some x := ⟨l[i], by simp⟩
      have hkan := hl.out ka (List.mem_of_getElem? hka)
      obtain ⟨g, o, hsg, ce⟩ := hA2.out.at (i := i) (b := X.pi ka) (by rw [List.getElem?_map, hka]; rfl)
      subst hsg
      have hM := measure_any hT hG hB (R := l.length) (punm G Xi l.length + 1) wr Xi ka hP.out hkan hx.out.mq (fun q hq hqr h1 h2 => absurd ((hx.out.gr q hq (by rw [← hx.out.root]; exact hqr)).1 ⟨h1, h2⟩) (hg0.out q hq (by rw [← hx.out.root]; exact hqr))) (Nat.lt_succ_self _)
      rw [hx.out.pi] at hM
      have htk := hid (show l.take (i + 1) = l.take i ++ [ka] by rw [List.take_add_one, hka]; rfl)
      replace hka := hid hka
      go_upto_region 6 with (go_at_call 29; refine hM.mono ?_; clear hM; rintro e w5 ⟨z, rfl, h1, h2, h3⟩; replace h1 := hid h1; replace h2 := hid h2; replace h3 := hid h3)
      have hcw := hid (hc.out.trans h1.out (fun q hq => by rw [hx.out.own] at hq; exact .inl hq))
      by_cases hz : z = 0
      · have kz : ((z : Int) == 0) = true := by simp [hz]
        replace hz := hid hz
        go_wp2
        go_ret
        exact ⟨hcw.out, .inl ⟨rfl, ka, List.mem_of_getElem? hka.out, h2.out hz.out⟩⟩
      · have kz : ((z : Int) == 0) = false := by rw [beq_eq_false_iff_ne]; omega
        obtain ⟨s, hs5, hzs, Y, hY, hxy⟩ := h3.out hz
        replace hY := hid hY
        replace hxy := hid (hx.out.trans hxy)
        replace hs5 := hid hs5
        replace hz := hid hz
        by_cases hb : 300 < s
        · have kb : (300 : Int) < (z : Int) := by omega
          replace hb := hid hb
          replace hzs := hid hzs
          go_wp2
          go_roundg (l.length - i)
          case measure => omega
          case rel =>
            refine ⟨i + 1, 10, Y, by simp, rfl, by omega, by omega, hY, hxy, hcw, hid (.inr ⟨rfl, fun j hj => ?_, ka, by rw [htk.out]; simp, s, hs5.out, hb.out⟩)⟩
            rw [htk.out] at hj
            rcases List.mem_append.1 hj with hj | hj
            · rcases hk.out with ⟨_, h7⟩ | ⟨_, h7, _⟩
              · obtain ⟨s7, h8, _⟩ := h7 j hj
                exact ⟨s7, h8⟩
              · exact h7 j hj
            · obtain rfl := List.mem_singleton.1 hj
              exact ⟨s, hs5.out⟩
        · have kb : ¬ (300 : Int) < (z : Int) := by omega
          have hb' : s ≤ 300 := by omega
          replace hb := hid hb
          replace hb' := hid hb'
          replace hzs := hid hzs
          go_wp2
          go_roundg (l.length - i)
          case measure => omega
          case rel =>
            refine ⟨i + 1, kd, Y, by simp, rfl, by omega, by omega, hY, hxy, hcw, ?_⟩
            rcases hk.out with ⟨h6, h7⟩ | ⟨h6, h7, j0, h8, h9⟩
            · refine hid (.inl ⟨h6, fun j hj => ?_⟩)
              rw [htk.out] at hj
              rcases List.mem_append.1 hj with hj | hj
              · exact h7 j hj
              · obtain rfl := List.mem_singleton.1 hj
                exact ⟨s, hs5.out, hb'.out⟩
            · refine hid (.inr ⟨h6, fun j hj => ?_, j0, by rw [htk.out]; simp [h8], h9⟩)
              rw [htk.out] at hj
              rcases List.mem_append.1 hj with hj | hj
              · exact h7 j hj
              · obtain rfl := List.mem_singleton.1 hj
                exact ⟨s, hs5.out⟩
    · obtain rfl : i = l.length := by omega
      have i1 : ¬ (l.length : Int) < (l.length : Int) := by omega
      rw [List.take_length] at hk
      go_wp2
      go_ret
      refine ⟨hc.out, ?_⟩
      rcases hk.out with ⟨rfl, h7⟩ | ⟨rfl, h7, h8⟩
      · exact .inr (.inr ⟨rfl, h7, Xi, hP.out, hx.out⟩)
      · exact .inr (.inl ⟨rfl, h7, h8⟩)
end Go.Proofs.Ytcogpcalghfghaa

namespace Go.Proofs.Ytcogpcalghfghaa
open Go.RowKit
open Un (Bag Nm Gr St put rvOf bagL)
variable {F : Nat → Prop}

/-- The solver in memory, behind a first world. -/
structure SOL (w0 w : World) (S : St) (X : Gx) (F : Nat → Prop) (mT mR sb : Nat) (l : List Nat) : Prop where
  vm : VM w S X F mT mR
  ok : S.OK
  bd : S.G.Bd (600 * l.length)
  ps : Pst w0 w mT mR
  ch : Ch (fun _ => False) w0 w
  sF : F sb
  sl : w0.heap.size ≤ sb
  own : ∀ k, X.own S.G.n k → w0.heap.size ≤ k
  sv : ∃ v, w.heap[sb]? = some (.cells #[.map (some mT), .map (some mR), v] 52 (0, 0)) ∧ w.ownsRow 0 61 1 v l.length (l.map fun j => bP (X.pi j)) ∧ ∀ k, v.ownBlock = some k → F k ∧ w0.heap.size ≤ k
  ll : ∀ j ∈ l, j < S.G.n
  rd : ∀ i, i < S.G.n → X.rd i ≤ l.length
/-- What add answers. -/
def AdP (w0 : World) (S : St) (mT mR sb : Nat) (l : List Nat) (pa pb : Ty.P) (e : Ending) (w' : World) : Prop :=
  Ch (fun _ => False) w0 w' ∧ (Gr.uni ((put pb (put pa S).2).2.G.n + 1) (put pb (put pa S).2).2.G (put pa S).1 (put pb (put pa S).2).1 = none → e = .returned (.int .i64 8)) ∧
    ∀ H, Gr.uni ((put pb (put pa S).2).2.G.n + 1) (put pb (put pa S).2).2.G (put pa S).1 (put pb (put pa S).2).1 = some H →
      ((e = .returned (.int .i64 8) ∧ ∃ j ∈ l ++ [(put pa S).1], ¬ H.Ends j) ∨ (e = .returned (.int .i64 10) ∧ (∀ j ∈ l ++ [(put pa S).1], H.Ends j) ∧ ∃ j ∈ l ++ [(put pa S).1], ∃ s, H.Parts j s ∧ 300 < s) ∨
        (e = .returned (.int .i64 0) ∧ (∀ j ∈ l ++ [(put pa S).1], ∃ s, H.Parts j s ∧ s ≤ 300) ∧ ∃ Y F', SOL w0 w' ⟨H, (put pb (put pa S).2).2.tv⟩ Y F' mT mR sb (l ++ [(put pa S).1])))
abbrev pairV (ka na ra : Int) (oa aa : Value) (kb nb rb : Int) (ob ab : Value) : Value := .agg #[.int .i64 ka, .int .i64 na, .int .i64 ra, oa, aa, .int .i64 kb, .int .i64 nb, .int .i64 rb, ob, ab]
abbrev pairB (ka na ra : Int) (oa aa : Value) (kb nb rb : Int) (ob ab : Value) : Obj := .cells #[.int .i64 ka, .int .i64 na, .int .i64 ra, oa, aa, .int .i64 kb, .int .i64 nb, .int .i64 rb, ob, ab] 34
theorem sp_of {w : World} {sb bx mT mR : Nat} {v : Value} {ka na ra : Int} {oa aa : Value} {kb nb rb : Int} {ob ab : Value} (hs : w.heap[sb]? = some (.cells #[.map (some mT), .map (some mR), v] 52 (0, 0))) (hb : w.heap[bx]? = some (pairB ka na ra oa aa kb nb rb ob ab)) :
    (w.cell? ⟨sb, 0, none⟩ = some (.map (some mT)) ∧ w.cell? ⟨sb, 1, none⟩ = some (.map (some mR))) ∧ w.cell? ⟨bx, 0, none⟩ = some (.int .i64 ka) ∧ w.cell? ⟨bx, 1, none⟩ = some (.int .i64 na) ∧ w.cell? ⟨bx, 2, none⟩ = some (.int .i64 ra) ∧ w.cell? ⟨bx, 3, none⟩ = some oa ∧ w.cell? ⟨bx, 4, none⟩ = some aa ∧ w.cell? ⟨bx, 5, none⟩ = some (.int .i64 kb) ∧ w.cell? ⟨bx, 6, none⟩ = some (.int .i64 nb) ∧ w.cell? ⟨bx, 7, none⟩ = some (.int .i64 rb) ∧ w.cell? ⟨bx, 8, none⟩ = some ob ∧ w.cell? ⟨bx, 9, none⟩ = some ab := by
  refine ⟨⟨?_, ?_⟩, ?_, ?_, ?_, ?_, ?_, ?_, ?_, ?_, ?_, ?_⟩ <;> (first | (rw [cellB hs]; rfl) | (rw [cellB hb]; rfl))

theorem roots_le (G : Gr) : G.roots ≤ G.n := by
  unfold Gr.roots
  exact Nat.le_trans (List.length_filter_le _ _) (by simp)
theorem MB.own {w w' : World} {G : Gr} {X : Gx} {mB : Nat} {l : List (Int × Nat)} (h : MB w mB l) (hp : PG w G X F) (hf : F mB) (hc : Ch (X.own G.n) w w') : MB w' mB l := h.keep hc (fun ho => hp.own_F ho hf)
theorem row_stay {w w' : World} {G : Gr} {X : Gx} {v : Value} {n : Nat} {xs : List Value} (h : w.ownsRow 0 61 1 v n xs) (hp : PG w G X F) (hc : Ch (X.own G.n) w w') : w'.ownsRow 0 61 1 v n xs :=
  ownsRow_keep h (fun k hk => by
    obtain ⟨cs, fr, e⟩ := Tb.row h k hk
    rw [hp.stay hc e ne3 ne4, e])
theorem row_maps {w w' : World} {S : St} {X : Gx} {mT mR : Nat} {v : Value} {n : Nat} {xs : List Value} (h : w.ownsRow 0 61 1 v n xs) (hp : VM w S X F mT mR) (hc : Ch (Mp mT mR) w w') : w'.ownsRow 0 61 1 v n xs :=
  ownsRow_keep h (fun k hk => by
    obtain ⟨cs, fr, e⟩ := Tb.row h k hk
    rw [hp.stay hc e, e])
set_option maxRecDepth 100000 in
set_option maxHeartbeats 8000000 in
theorem add_any {w0 w : World} {S : St} {X : Gx} {mT mR sb : Nat} {l : List Nat} (h : SOL w0 w S X F mT mR sb l) (hl : l.length < 20) {pa pb : Ty.P} {oa aa ob ab : Value} (hpa : pa.ok ∧ pa.parts ≤ 300) (hpb : pb.ok ∧ pb.parts ≤ 300) (hia : IsT w0 pa oa aa) (hib : IsT w0 pb ob ab) :
    Calls Try.prog 11 #[.pointer (some ⟨sb, 0, none⟩), pairV pa.kind pa.num pa.row oa aa pb.kind pb.num pb.row ob ab] w fun e w' => AdP w0 S mT mR sb l pa pb e w' := by
  obtain ⟨qa, qc, qb, ql, qd, hq1, hq2, -⟩ := hia.slices
  obtain ⟨ra, rc, rb, rl, rd', hr1, hr2, -⟩ := hib.slices
  subst hq1 hq2 hr1 hr2
  obtain ⟨v, hsb, hrow, hvF⟩ := h.sv
  have hca := al_ch w (pairB pa.kind pa.num pa.row (.slice qa pa.ops.length qc) (.slice qb ql qd) pb.kind pb.num pb.row (.slice ra pb.ops.length rc) (.slice rb rl rd'))
  have hcd := hca.trans (Ch.drew (fun _ => False) _) (fun _ h => h.elim)
  have hbx := World.alloc_heap_new w (pairB pa.kind pa.num pa.row (.slice qa pa.ops.length qc) (.slice qb ql qd) pb.kind pb.num pb.row (.slice ra pb.ops.length rc) (.slice rb rl rd'))
  have hsb1 := (hca.same _ (Array.getElem?_eq_some_iff.1 hsb).1 (fun h => h)).trans hsb
  have hput1 := Un.put_ok pa hpa.1 S h.ok
  have hput2 := Un.put_ok pb hpb.1 _ hput1.1
  have cost1 := Dg.put_cost pa hpa.1 S h.ok _ h.bd
  have cost2 := Dg.put_cost pb hpb.1 _ hput1.1 _ cost1.2.2
  have HA := Node_any w0 pa (h.vm.quiet hcd) h.ok hpa.1 hpa.2 (h.ps.step hcd (fun _ h => h.elim)) hia
  have hV1 := hid (h.vm.quiet hcd)
  have hps1 := hid (h.ps.step hcd (fun _ h => h.elim))
  have hok1 := hid hput1
  have hok2 := hid hput2
  have hcost := hid (cost2.2.2)
  have hc1 := hid (h.ch.trans hcd (fun _ h => h.elim))
  replace h := hid h
  replace hpa := hid hpa
  replace hpb := hid hpb
  replace hia := hid hia
  replace hib := hid hib
  replace hrow := hid hrow
  replace hvF := hid hvF
  replace hsb := hid hsb
  clear hput1 hput2 cost1 cost2
  go_enter Try.func11, Try.ntmps11
  go_upto_region 1 with (fail)
  generalize w.alloc (pairB pa.kind pa.num pa.row (.slice qa pa.ops.length qc) (.slice qb ql qd) pb.kind pb.num pb.row (.slice ra pb.ops.length rc) (.slice rb rl rd')) = W at *
  generalize hbe : w.heap.size = bx at *
  replace hbe := hid hbe
  have hS0 := sp_of (w := W.drew) hsb1 hbx
  have hS1 := hid (show W.drew.heap[sb]? = _ from hsb1)
  have hP1 := hid (show W.drew.heap[bx]? = _ from hbx)
  replace hca := hid hca
  replace hcd := hid hcd
  clear hsb1 hbx
  refine wp_region_held_drew (S := (fun w' => (w'.cell? ⟨sb, 0, none⟩ = some (.map (some mT)) ∧ w'.cell? ⟨sb, 1, none⟩ = some (.map (some mR))) ∧ w'.cell? ⟨bx, 0, none⟩ = some (.int .i64 (pa.kind : Nat)) ∧ w'.cell? ⟨bx, 1, none⟩ = some (.int .i64 (pa.num : Nat)) ∧ w'.cell? ⟨bx, 2, none⟩ = some (.int .i64 (pa.row : Nat)) ∧ w'.cell? ⟨bx, 3, none⟩ = some (.slice qa pa.ops.length qc) ∧ w'.cell? ⟨bx, 4, none⟩ = some (.slice qb ql qd) ∧ w'.cell? ⟨bx, 5, none⟩ = some (.int .i64 (pb.kind : Nat)) ∧ w'.cell? ⟨bx, 6, none⟩ = some (.int .i64 (pb.num : Nat)) ∧ w'.cell? ⟨bx, 7, none⟩ = some (.int .i64 (pb.row : Nat)) ∧ w'.cell? ⟨bx, 8, none⟩ = some (.slice ra pb.ops.length rc) ∧ w'.cell? ⟨bx, 9, none⟩ = some (.slice rb rl rd'))) (by kernel_rfl) (by first | trivial | ((try dsimp only); go_keep)) (fun hHeld => ?_)
  refine wpAnyH_take (i := 0) (v := ?vvv1) rfl (by kernel_rfl) (by kernel_rfl) (by kernel_rfl) (fun _ _ _ h => h) (Or.inl ⟨by rfl, ?yyv1⟩) (by assumption) ?rrv1
  case yyv1 => (intro w' hSw; (try dsimp only at hSw); go_simp; (try with_reducible rfl))
  try simp only [Act.put, List.setIfInBounds_toArray, List.set_cons_zero, List.set_cons_succ]
  refine wpAnyH_take (i := 1) (v := ?vvv2) rfl (by kernel_rfl) (by kernel_rfl) (by kernel_rfl) (fun _ _ _ h => h) (Or.inl ⟨by rfl, ?yyv2⟩) (by assumption) ?rrv2
  case yyv2 => (intro w' hSw; (try dsimp only at hSw); go_simp; (try with_reducible rfl))
  try simp only [Act.put, List.setIfInBounds_toArray, List.set_cons_zero, List.set_cons_succ]
  refine wpAnyH_take (i := 2) (v := ?vvv3) rfl (by kernel_rfl) (by kernel_rfl) (by kernel_rfl) (fun _ _ _ h => h) (Or.inl ⟨by rfl, ?yyv3⟩) (by assumption) ?rrv3
  case yyv3 => (intro w' hSw; (try dsimp only at hSw); go_simp; (try with_reducible rfl))
  try simp only [Act.put, List.setIfInBounds_toArray, List.set_cons_zero, List.set_cons_succ]
  refine wpAnyH_take (i := 3) (v := ?vvv4) rfl (by kernel_rfl) (by kernel_rfl) (by kernel_rfl) (fun _ _ _ h => h) (Or.inl ⟨by rfl, ?yyv4⟩) (by assumption) ?rrv4
  case yyv4 => (intro w' hSw; (try dsimp only at hSw); go_simp; (try with_reducible rfl))
  try simp only [Act.put, List.setIfInBounds_toArray, List.set_cons_zero, List.set_cons_succ]
  refine wpAnyH_take (i := 4) (v := ?vvv5) rfl (by kernel_rfl) (by kernel_rfl) (by kernel_rfl) (fun _ _ _ h => h) (Or.inl ⟨by rfl, ?yyv5⟩) (by assumption) ?rrv5
  case yyv5 => (intro w' hSw; (try dsimp only at hSw); go_simp; (try with_reducible rfl))
  try simp only [Act.put, List.setIfInBounds_toArray, List.set_cons_zero, List.set_cons_succ]
  refine wpAnyH_take (i := 5) (v := ?vvv6) rfl (by kernel_rfl) (by kernel_rfl) (by kernel_rfl) (fun _ _ _ h => h) (Or.inl ⟨by rfl, ?yyv6⟩) (by assumption) ?rrv6
  case yyv6 => (intro w' hSw; (try dsimp only at hSw); go_simp; (try with_reducible rfl))
  try simp only [Act.put, List.setIfInBounds_toArray, List.set_cons_zero, List.set_cons_succ]
  refine wpAnyH_take (i := 7) (v := ?vvv7) rfl (by kernel_rfl) (by kernel_rfl) (by kernel_rfl) (fun _ _ _ h => h) (Or.inl ⟨by rfl, ?yyv7⟩) (by assumption) ?rrv7
  case yyv7 => (intro w' hSw; (try dsimp only at hSw); go_simp; (try with_reducible rfl))
  try simp only [Act.put, List.setIfInBounds_toArray, List.set_cons_zero, List.set_cons_succ]
  refine wpAnyH_take (i := 8) (v := ?vvv8) rfl (by kernel_rfl) (by kernel_rfl) (by kernel_rfl) (fun _ _ _ h => h) (Or.inl ⟨by rfl, ?yyv8⟩) (by assumption) ?rrv8
  case yyv8 => (intro w' hSw; (try dsimp only at hSw); go_simp; (try with_reducible rfl))
  try simp only [Act.put, List.setIfInBounds_toArray, List.set_cons_zero, List.set_cons_succ]
  refine wpAnyH_take (i := 9) (v := ?vvv9) rfl (by kernel_rfl) (by kernel_rfl) (by kernel_rfl) (fun _ _ _ h => h) (Or.inl ⟨by rfl, ?yyv9⟩) (by assumption) ?rrv9
  case yyv9 => (intro w' hSw; (try dsimp only at hSw); go_simp; (try with_reducible rfl))
  try simp only [Act.put, List.setIfInBounds_toArray, List.set_cons_zero, List.set_cons_succ]
  refine wpAnyH_take (i := 10) (v := ?vvv10) rfl (by kernel_rfl) (by kernel_rfl) (by kernel_rfl) (fun _ _ _ h => h) (Or.inl ⟨by rfl, ?yyv10⟩) (by assumption) ?rrv10
  case yyv10 => (intro w' hSw; (try dsimp only at hSw); go_simp; (try with_reducible rfl))
  try simp only [Act.put, List.setIfInBounds_toArray, List.set_cons_zero, List.set_cons_succ]
  refine wpAnyH_take (i := 11) (v := ?vvv11) rfl (by kernel_rfl) (by kernel_rfl) (by kernel_rfl) (fun _ _ _ h => h) (Or.inl ⟨by rfl, ?yyv11⟩) (by assumption) ?rrv11
  case yyv11 => (intro w' hSw; (try dsimp only at hSw); go_simp; (try with_reducible rfl))
  try simp only [Act.put, List.setIfInBounds_toArray, List.set_cons_zero, List.set_cons_succ]
  refine wpAnyH_take (i := 12) (v := ?vvv12) rfl (by kernel_rfl) (by kernel_rfl) (by kernel_rfl) (fun _ _ _ h => h) (Or.inl ⟨by rfl, ?yyv12⟩) (by assumption) ?rrv12
  case yyv12 => (intro w' hSw; (try dsimp only at hSw); go_simp; (try with_reducible rfl))
  try simp only [Act.put, List.setIfInBounds_toArray, List.set_cons_zero, List.set_cons_succ]
  refine wpAnyH_ready (rs := [6]) (by kernel_rfl) (by simp) (AllReadyH.cons rfl (fun K hK => ?_) AllReadyH.nil)
  go_simp
  refine HA.mono ?_
  clear HA
  rintro e w3 ⟨Y, rfl, hV3, hx3, hc3⟩
  have s3 := hV1.out.stay hc3 hS1.out
  have b3 := hV1.out.stay hc3 hP1.out
  have hS5 := sp_of s3 b3
  have hS6 := hS5
  have HB := Node_any w0 pb hV3 hok1.out.1 hpb.out.1 hpb.out.2 (hps1.out.step hc3 (fun k hk => by rcases hk with e | e; rw [e]; exact hps1.out.t; rw [e]; exact hps1.out.r)) hib.out
  have hS3 := hid s3
  have hP3 := hid b3
  replace hV3 := hid hV3
  replace hx3 := hid hx3
  replace hc3 := hid hc3
  clear s3 b3
  dsimp only
  clear hHeld
  refine hK.out _ _ ?hs (fun hHeld => ?_)
  case hs => (first | exact hS5 | trivial | ((try dsimp only); go_keep) | ((try dsimp only); simp [*, World.cell?_alloc_some, World.cell?_setCell_far, World.cell?_setCell_other]))
  clear hK K
  try simp only [Act.put, List.setIfInBounds_toArray, List.set_cons_zero, List.set_cons_succ]
  refine wpAnyH_ready (rs := [13]) (by kernel_rfl) (by simp) (AllReadyH.cons rfl (fun K hK => ?_) AllReadyH.nil)
  go_simp
  refine HB.mono ?_
  clear HB
  rintro e w4 ⟨Z, rfl, hV4, hx4, hc4⟩
  have s4 := hV3.out.stay hc4 hS3.out
  have b4 := hV3.out.stay hc4 hP3.out
  have hS5 := sp_of s4 b4
  have hS7 := hS5
  have hS4 := hid s4
  replace hV4 := hid hV4
  replace hx4 := hid hx4
  replace hc4 := hid hc4
  clear s4 b4
  dsimp only
  clear hHeld
  refine hK.out _ _ ?hs (fun hHeld => ?_)
  case hs => (first | exact hS5 | trivial | ((try dsimp only); go_keep) | ((try dsimp only); simp [*, World.cell?_alloc_some, World.cell?_setCell_far, World.cell?_setCell_other]))
  clear hK K
  try simp only [Act.put, List.setIfInBounds_toArray, List.set_cons_zero, List.set_cons_succ]
  refine wpAnyH_ready (rs := [14]) (by kernel_rfl) (by simp) (AllReadyH.cons rfl (fun K hK => ?_) AllReadyH.nil)
  go_simp
  have hS5 := hS7
  clear hHeld
  refine hK.out _ _ ?hs (fun hHeld => ?_)
  case hs => (first | exact hS5 | trivial | ((try dsimp only); go_keep) | ((try dsimp only); simp [*, World.cell?_alloc_some, World.cell?_setCell_far, World.cell?_setCell_other]))
  clear hK K
  try simp only [Act.put, List.setIfInBounds_toArray, List.set_cons_zero, List.set_cons_succ]
  refine wpAnyH_ready (rs := [15]) (by kernel_rfl) (by simp) (AllReadyH.cons rfl (fun K hK => ?_) AllReadyH.nil)
  go_simp
  have hS5 := hS7
  clear hHeld
  refine hK.out _ _ ?hs (fun hHeld => ?_)
  case hs => (first | exact hS5 | trivial | ((try dsimp only); go_keep) | ((try dsimp only); simp [*, World.cell?_alloc_some, World.cell?_setCell_far, World.cell?_setCell_other]))
  clear hK K
  try simp only [Act.put, List.setIfInBounds_toArray, List.set_cons_zero, List.set_cons_succ]
  refine wpAnyH_done (by kernel_rfl) ?_ _
  clear hHeld
  clear hS5 hS6 hS7 hS0
  have hx04 := hid (hx3.out.trans hx4.out hok1.out.2.2.1 hc3.out.size)
  have hc04 := hid ((hc1.out.trans hc3.out (fun k hk => by rcases hk with e | e; exact .inr (by rw [e]; exact hps1.out.t); exact .inr (by rw [e]; exact hps1.out.r))).trans hc4.out (fun k hk => by rcases hk with e | e; exact .inr (by rw [e]; exact hps1.out.t); exact .inr (by rw [e]; exact hps1.out.r)))
  have hWle : w0.heap.size ≤ W.drew.heap.size := hps1.out.size
  have hown4 := hid (fun k (hk : Z.own (put pb (put pa S).2).2.G.n k) => by
    rcases hx04.out.new k hk with h1 | h1
    · exact h.out.own k h1
    · exact Nat.le_trans hWle h1)
  have hrow4 := hid (row_maps (row_maps (ownsRow_keep (w' := W.drew) hrow.out (fun k hk => by have := hcd.out.same k (ownsRow_lt hrow.out hk) (fun h => h); exact this)) hV1.out hc3.out) hV3.out hc4.out)
  have hp1 : Y.pi (put pa S).1 = Z.pi (put pa S).1 := (hx4.out.pi _ hok1.out.2.1).symm
  rw [hp1]
  have hx1n : (put pa S).1 < (put pb (put pa S).2).2.G.n := Nat.lt_of_lt_of_le hok1.out.2.1 hok2.out.2.2.1
  have HS := psame_any (F := F) (T := 600 * l.length + pa.parts + pb.parts) (by have := hpa.out.2; have := hpb.out.2; omega) ((put pb (put pa S).2).2.G.n + 1) w4 _ Z _ _ hV4.out.pg hok2.out.1.g hcost.out hx1n hok2.out.2.1 (Nat.lt_succ_of_le (roots_le _))
  have hrd4 := hid (fun i (hi : i < (put pb (put pa S).2).2.G.n) => hx04.out.rd l.length h.out.rd i hi)
  have hpi4 := hid (fun j (hj : j < S.G.n) => hx04.out.pi j hj)
  clear hx3 hx4 hc3 hc4 hV1 hps1 hP1 hP3 hS1 hS3 hc1 hx04
  replace hp1 := hid hp1
  replace hx1n := hid hx1n
  cases hu : Gr.uni ((put pb (put pa S).2).2.G.n + 1) (put pb (put pa S).2).2.G (put pa S).1 (put pb (put pa S).2).1 with
  | none =>
    replace hu := hid hu
    go_wp2_with (go_at_call 18; refine HS.mono ?_; clear HS; rintro e w5 ⟨h1, h2, h3⟩; obtain rfl := h1 hu.out; clear h1 h2; replace h3 := hid h3)
    go_ret
    exact ⟨hc04.out.trans h3.out (fun k hk => .inr (hown4.out k hk)), (fun _ => rfl), (fun H e => by rw [hu.out] at e; cases e)⟩
  | some H =>
    obtain ⟨u1, u2⟩ := Gr.uni_ok _ _ _ _ H hok2.out.1.g hx1n.out hok2.out.2.1 hu
    have u3 := hid (Gr.uni_bd _ _ _ _ H hok2.out.1.g hcost.out hx1n.out hok2.out.2.1 hu)
    have hHn := u2.n
    replace u1 := hid u1
    replace u2 := hid u2
    replace hu := hid hu
    go_upto_region 4 with (go_at_call 18; refine HS.mono ?_; clear HS; rintro e w5 ⟨h1, h2, h3⟩; obtain ⟨rfl, V, hP5, hx5⟩ := h2 H hu.out; clear h1 h2; replace h3 := hid h3; replace hP5 := hid hP5; replace hx5 := hid hx5)
    have hs5 := hV4.out.pg.stay h3.out hS4.out ne7 ne8
    have hrow5 := row_stay hrow4.out hV4.out.pg h3.out
    have c2 : w5.cell? ⟨sb, 2, none⟩ = some v := by rw [cellB hs5]; rfl
    obtain ⟨va, vc, hve, _⟩ := row_slice hrow5
    subst hve
    have hPa := hid (hP5.out.quiet (al_ch w5 (.cells #[.pointer (some ⟨Z.pi (put pa S).1, 0, none⟩)] 61)))
    have hrw := ownsRow_keep (w' := w5.alloc (.cells #[.pointer (some ⟨Z.pi (put pa S).1, 0, none⟩)] 61)) hrow5 (fun k hk => Below.heap_alloc _ _ _ (ownsRow_lt hrow5 hk))
    have hsa := hid (blk_alloc (x := .cells #[.pointer (some ⟨Z.pi (put pa S).1, 0, none⟩)] 61) hs5)
    have hTb := hid (Tb.row hrw)
    have hs2 : ∀ {w7 : World}, (w5.alloc (.cells #[.pointer (some ⟨Z.pi (put pa S).1, 0, none⟩)] 61)).grownBy w7 (Value.slice va l.length vc).ownBlock → w7.heap[sb]? = some (.cells #[.map (some mT), .map (some mR), .slice va l.length vc] 52 (0, 0)) := fun {w7} hg => (hg.block sb (Array.getElem?_eq_some_iff.1 hsa.out).1 (fun e => by
      obtain ⟨cs, fr, e2⟩ := hTb.out sb e.symm
      rw [hsa.out] at e2
      cases e2)).trans hsa.out
    have hs2' : Hid (∀ w7 : World, (w5.alloc (.cells #[.pointer (some ⟨Z.pi (put pa S).1, 0, none⟩)] 61)).grownBy w7 (Value.slice va l.length vc).ownBlock → w7.heap[sb]? = some (.cells #[.map (some mT), .map (some mR), .slice va l.length vc] 52 (0, 0))) := hid (fun w7 hg => hs2 hg)
    clear hs2
    replace hs5 := hid hs5
    have hAc := new_one w5 (.pointer (some ⟨Z.pi (put pa S).1, 0, none⟩)) 61
    go_upto_region 5 with (at_builtin; go_must (refine list_append rfl (.tmp 29) (.tmp 31) 50 rfl 61 (.pointer none) 1 8 Try.underlying50 Try.infoPN rfl (by decide) (.slice va l.length vc) l.length _ rfl hrw ⟨_, 0, none⟩ 1 1 [.pointer (some ⟨Z.pi (put pa S).1, 0, none⟩)] rfl rfl hAc (by simp [Value.oneCell']) (by unfold maxLen; omega) (by omega) ?_); intro v' w7 hrow7 hgrow7 hblk7; obtain ⟨va7, vc7, hv7, _⟩ := row_slice hrow7; subst hv7; have hsb7 := hs2'.out w7 hgrow7; have c27 := (show w7.cell? ⟨sb, 2, none⟩ = some (.slice va l.length vc) by rw [cellB hsb7]; rfl); have f27 := frozenB hsb7 2; replace hrow7 := hid hrow7; replace hgrow7 := hid hgrow7; replace hblk7 := hid hblk7; replace hsb7 := hid hsb7)
    have hz5 := (hc04.out.trans h3.out (fun k hk => .inr (hown4.out k hk)))
    have hvb : ∀ k, (Value.slice va l.length vc).ownBlock = some k → F k ∧ w0.heap.size ≤ k := hvF.out
    have c57 : Ch (fun k => (Value.slice va l.length vc).ownBlock = some k) w5 w7 := ((al_ch w5 (.cells #[.pointer (some ⟨Z.pi (put pa S).1, 0, none⟩)] 61)).mono (fun _ h => h.elim)).trans (Ch.grown hgrow7.out (fun k hk => hk)) (fun _ h => .inl h)
    have c58 : Ch (fun k => (Value.slice va l.length vc).ownBlock = some k ∨ k = sb) w5 (w7.setCell ⟨sb, 2, none⟩ (.slice va7 (l.length + 1) vc7)) := (c57.mono (fun _ h => .inl h)).trans (O1 := fun k => k = sb) (Ch.setCell w7 ⟨sb, 2, none⟩ _ rfl) (fun k e => .inl (.inr e))
    have hP8 := hP5.out.growF (c58.mono (fun k hk => by rcases hk with hk | rfl; exact (hvb k hk).1; exact h.out.sF))
    have hsb8 : (w7.setCell ⟨sb, 2, none⟩ (.slice va7 (l.length + 1) vc7)).heap[sb]? = some (.cells #[.map (some mT), .map (some mR), .slice va7 (l.length + 1) vc7] 52 (0, 0)) := by rw [blk_set hsb7.out]; rfl
    have hvown : ∀ k, (Value.slice va7 (l.length + 1) vc7).ownBlock = some k → (Value.slice va l.length vc).ownBlock = some k ∨ (w5.heap.size ≤ k ∧ k < w7.heap.size) := fun k hk => by
      have hlt := ownsRow_lt hrow7.out hk
      rcases hblk7.out with e | e
      · exact .inl (e.symm.trans hk)
      · rw [e] at hk; cases hk; exact .inr ⟨by simp, hlt⟩
    have hs78 : (w7.setCell ⟨sb, 2, none⟩ (.slice va7 (l.length + 1) vc7)).heap.size = w7.heap.size := by
      show (w7.heap.modify _ _).size = _
      rw [Array.size_modify]
    have hsbv : ∀ k, (Value.slice va7 (l.length + 1) vc7).ownBlock = some k → k ≠ sb := fun k hk e => by
      obtain ⟨cs, fr, e2⟩ := Tb.row hrow7.out k hk
      rw [e, hsb7.out] at e2
      cases e2
    have hVpi := hx5.out.pi
    have hmapV : (l ++ [(put pa S).1]).map (fun j => bP (V.pi j)) = (l.map fun j => bP (X.pi j)) ++ [.pointer (some ⟨Z.pi (put pa S).1, 0, none⟩)] := by
      rw [List.map_append, hVpi]
      congr 1
      exact List.map_congr_left (fun j hj => by rw [hpi4.out j (h.out.ll j hj)])
    have hrow8 : (w7.setCell ⟨sb, 2, none⟩ (.slice va7 (l.length + 1) vc7)).ownsRow 0 61 1 (.slice va7 (l.length + 1) vc7) (l.length + 1) ((l ++ [(put pa S).1]).map fun j => bP (V.pi j)) := by
      rw [hmapV]
      exact ownsRow_keep hrow7.out (fun k hk => Below.heap_setCell w7 ⟨sb, 2, none⟩ _ k (hsbv k hk))
    have hll : ∀ j ∈ l ++ [(put pa S).1], j < H.n := fun j hj => by
      rw [hHn]
      rcases List.mem_append.1 hj with hj | hj
      · exact Nat.lt_of_lt_of_le (h.out.ll j hj) (Nat.le_trans hok1.out.2.2.1 hok2.out.2.2.1)
      · obtain rfl := List.mem_singleton.1 hj
        exact hx1n.out
    have hlen1 : (l ++ [(put pa S).1]).length = l.length + 1 := by simp
    have hrdV : ∀ i, i < H.n → V.rd i ≤ l.length := fun i hi => by rw [hx5.out.rd]; exact hrd4.out i (by rw [← hHn]; exact hi)
    have hA8 : ArgsT (w7.setCell ⟨sb, 2, none⟩ (.slice va7 (l.length + 1) vc7)) (fun _ => False) (.slice va7 (l.length + 1) vc7) ((l ++ [(put pa S).1]).map V.pi) := ArgsT.of_row (by rw [List.length_map, hlen1, List.map_map]; exact hrow8) (fun _ _ h => h)
    have HK := check_any (T := 600 * l.length + pa.parts + pb.parts) (by have := hpa.out.2; have := hpb.out.2; omega) u1.out u3.out hP8 hll (fun i hi => by have := hrdV i hi; omega) hsb8 hA8 (by omega)
    clear c2 hAc
    have hc8 := hid (hz5.trans c58 (fun k hk => by rcases hk with hk | rfl; exact .inr (hvb k hk).2; exact .inr h.out.sl))
    replace c57 := hid c57
    replace c58 := hid c58
    replace hP8 := hid hP8
    replace hsb8 := hid hsb8
    replace hvown := hid hvown
    replace hrow8 := hid hrow8
    replace hll := hid hll
    replace hrdV := hid hrdV
    replace hA8 := hid hA8
    replace hvb := hid hvb
    replace hz5 := hid hz5
    replace hs78 := hid hs78
    replace hmapV := hid hmapV
    replace hVpi := hid hVpi
    go_wp2_with (go_at_call 19; refine HK.mono ?_; clear HK; rintro e w9 ⟨k1, k2⟩; have hke : ∃ z : Int, e = .returned (.int .i64 z) := (by rcases k2 with ⟨rfl, _⟩ | ⟨rfl, _⟩ | ⟨rfl, _⟩ <;> exact ⟨_, rfl⟩); obtain ⟨z, rfl⟩ := hke; replace k1 := hid k1; replace k2 := hid k2)
    go_ret
    show AdP w0 S mT mR sb l pa pb (Ending.returned (.int .i64 z)) w9
    have hVown : ∀ k, V.own H.n k → w0.heap.size ≤ k := fun k hk => by
      rw [hHn] at hk
      rcases hx5.out.own hk with h1 | h1
      · exact hown4.out k h1
      · exact Nat.le_trans hc04.out.size h1
    have hfin : Ch (fun _ => False) w0 w9 := hc8.out.trans k1.out (fun k hk => .inr (hVown k hk))
    refine ⟨hfin, (fun e => by rw [hu.out] at e; cases e), fun H' e => ?_⟩
    rw [hu.out] at e
    obtain rfl := Option.some.inj e
    rcases k2.out with ⟨e1, e2⟩ | ⟨e1, e2⟩ | ⟨e1, e2, Y2, hY, hxm⟩
    · exact .inl ⟨e1, e2⟩
    · exact .inr (.inl ⟨e1, e2⟩)
    · refine .inr (.inr ⟨e1, e2, Y2, Fg F w5 (w7.setCell ⟨sb, 2, none⟩ (.slice va7 (l.length + 1) vc7)), ?_⟩)
      have hF8 : ∀ k, F k → Fg F w5 (w7.setCell ⟨sb, 2, none⟩ (.slice va7 (l.length + 1) vc7)) k := fun k hk => .inl hk
      have hmap : ∀ {mB : Nat} {q : List (Int × Nat)}, MB w4 mB q → F mB → MB w9 mB q := fun {mB q} m1 hf => by
        have m5 := m1.own hV4.out.pg hf h3.out
        have m8 := m5.keep c58.out (fun ho => by
          rcases ho with ho | ho
          · obtain ⟨cs, fr, e2⟩ := Tb.row hrow5 mB ho
            exact m5.not_cells e2 rfl
          · exact m5.not_cells hs5.out ho.symm)
        exact m8.own hP8.out (hF8 _ hf) k1.out
      obtain ⟨lT, mT1, mT2⟩ := hV4.out.ty
      obtain ⟨lR, mR1, mR2⟩ := hV4.out.ro
      have hYpi : Y2.pi = Z.pi := hxm.pi.trans hVpi.out
      refine ⟨⟨hY, hF8 _ h.out.vm.fT, hF8 _ h.out.vm.fR, h.out.vm.ne, ⟨lT, hmap mT1 h.out.vm.fT, fun n => by rw [mT2 n, hYpi]⟩, ⟨lR, hmap mR1 h.out.vm.fR, fun r hr => by rw [mR2 r hr, hxm.ps, hx5.out.low r hr]⟩⟩, ⟨u1.out, Nat.le_trans hok2.out.1.big u2.out.m, fun p hp => by rw [hHn]; exact hok2.out.1.tv p hp⟩, u3.out.le (by have := hpa.out.2; have := hpb.out.2; simp; omega), ⟨hfin.size, fun k hk => hfin.same k hk (fun h => h), h.out.ps.t, h.out.ps.r⟩, hfin, hF8 _ h.out.sF, h.out.sl, fun k hk => by rw [hxm.own] at hk; exact hVown k hk, ⟨_, hP8.out.stay k1.out hsb8.out ne7 ne8, ?_, fun k hk => ?_⟩, hll.out, fun q hq => ?_⟩
      · rw [hxm.pi, show (l ++ [(put pa S).1]).length = l.length + 1 by simp]
        exact row_stay hrow8.out hP8.out k1.out
      · rcases hvown.out k hk with h1 | h1
        · exact ⟨hF8 _ (hvb.out k h1).1, (hvb.out k h1).2⟩
        · exact ⟨.inr ⟨h1.1, by rw [hs78.out]; exact h1.2⟩, Nat.le_trans hz5.out.size h1.1⟩
      · have h1 := hrdV.out q hq
        have h2 : (l ++ [(put pa S).1]).length = l.length + 1 := by simp
        rcases hxm.or q with e3 | e3
        · rw [e3, h2]; omega
        · rw [e3]; exact Nat.le_refl _
end Go.Proofs.Ytcogpcalghfghaa
