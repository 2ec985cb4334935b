/-
  The document's graph: PutRow, Var, Open, Find.
-/
import Derived.Test.YtficijneelpmcaaGreatDc
import Derived.Deep.LoopGhost
set_option linter.unusedVariables false
set_option linter.unusedSimpArgs false
namespace Go.Proofs.YtficijneelpmcaaGreat
open Go.RowKit

def RowX (o : Value) (x : Int) (i : Nat) : List Value := if i = 5 then [o] else if i = 6 then [.int .i64 x] else []
set_option maxRecDepth 100000 in
set_option maxHeartbeats 4000000 in
theorem PutRow_any (w : World) (b : Nat) (G : Gg) (h : GM w b G) (hl : G.small 1000000000) (oa : Option Addr) (on oc : Nat) (x : Int) :
    Calls Tryz.prog 28 #[.pointer (some ⟨b, 0, none⟩), .slice oa on oc, .int .i64 x] w fun e w' => e = .returned (.int .i64 ((G.xs 5).length : Nat)) ∧ ∃ G', GM w' b G' ∧ Ch (G.own b) w w' ∧ More w (G.own b) (G'.own b) ∧ (∀ i, G'.xs i = G.xs i ++ RowX (.slice oa on oc) x i) ∧ G'.tv = G.tv ∧ G'.rv = G.rv := by
  have ah := h
  have hl0 : (G.xs 5).length < 1000000000 := hl 5 (by omega)
  have hw0 : IntKind.i64.wrap (((G.xs 5).length : Int) + 1 - 1) = ((G.xs 5).length : Int) := by rw [show ((G.xs 5).length : Int) + 1 - 1 = ((G.xs 5).length : Int) by omega]; exact IntWalk.i64_in _ (by omega)
  go_enter Tryz.func28, Tryz.ntmps28
  obtain ⟨aa, acap, av, _, _⟩ := ah.slice (i := 5) (by omega)
  have ar := ah.row_al (i := 5) (by omega) av (.cells #[.slice oa on oc] 30)
  have au : (Value.slice aa (G.xs 5).length acap).ownBlock ≠ some b := av ▸ (ah.d2 5 (by omega)).1
  have ac := ah.cells.2.2.2.2.2.1
  rw [av] at ac
  have af := ah.frozen
  go_upto_region 2 with (at_builtin; go_must (refine list_append rfl (.tmp 11) (.tmp 13) 70 rfl 30 (.slice none 0 0) 1 24 Tryz.underlying70 Tryz.infoStrs rfl (by decide) (.slice aa (G.xs 5).length acap) (G.xs 5).length (G.xs 5) rfl ar ⟨w.heap.size, 0, none⟩ 1 1 [.slice oa on oc] rfl rfl (new_one w (.slice oa on oc) 30) (by simp [Value.oneCell']) (by unfold maxLen; omega) (by omega) ?_); intro av' aw1 arow agr abl; (obtain ⟨ag', acap', rfl⟩ := ownsRow_succ arow); (obtain ⟨ae1, ae2⟩ := app_keep (al_ch w _) agr au ac af))
  obtain ⟨G0, an1, an2, an3, an4⟩ := ah.push (i := 5) (by omega) av arow agr abl
  clear arow agr abl ae1 ae2 ar au ac af
  generalize World.setCell aw1 ⟨b, 5, none⟩ _ = W0 at an1 an2 ⊢
  have bh := an1
  have bl : (G0.xs 6).length < 1000000000 := by have := hl 6 (by omega); simpa [an4.xs] using this
  obtain ⟨ba, bcap, bv, _, _⟩ := bh.slice (i := 6) (by omega)
  have br := bh.row_al (i := 6) (by omega) bv (.cells #[.int .i64 x] 3)
  have bu : (Value.slice ba (G0.xs 6).length bcap).ownBlock ≠ some b := bv ▸ (bh.d2 6 (by omega)).1
  have bc := bh.cells.2.2.2.2.2.2.1
  rw [bv] at bc
  have bf := bh.frozen
  go_upto_region 3 with (at_builtin; go_must (refine list_append rfl (.tmp 21) (.tmp 23) 51 rfl 3 (.int .i64 0) 1 8 Tryz.underlying51 Tryz.info3 rfl (by decide) (.slice ba (G0.xs 6).length bcap) (G0.xs 6).length (G0.xs 6) rfl br ⟨W0.heap.size, 0, none⟩ 1 1 [.int .i64 x] rfl rfl (new_one W0 (.int .i64 x) 3) (by simp [Value.oneCell']) (by unfold maxLen; omega) (by omega) ?_); intro bv' bw1 brow bgr bbl; (obtain ⟨bg', bcap', rfl⟩ := ownsRow_succ brow); (obtain ⟨be1, be2⟩ := app_keep (al_ch W0 _) bgr bu bc bf))
  obtain ⟨G1, bn1, bn2, bn3, bn4⟩ := bh.push (i := 6) (by omega) bv brow bgr bbl
  clear brow bgr bbl be1 be2 br bu bc bf
  generalize World.setCell bw1 ⟨b, 6, none⟩ _ = W1 at bn1 bn2 ⊢
  have fh := bn1
  have hx0 : (G1.xs 5).length = (G.xs 5).length + 1 := by simp [bn4.xs, an4.xs]
  obtain ⟨fa, fcap, fv, _, _⟩ := fh.slice (i := 5) (by omega)
  have fc := fh.cells.2.2.2.2.2.1
  rw [fv, hx0] at fc
  go_wp2
  go_ret
  refine ⟨?_, G1, fh, an2.two bn2 an3, an3.two bn3 an2.size, fun i => ?_, ?_, ?_⟩
  · rfl
  · rw [bn4.xs]
    simp only [an4.xs, RowX]
    by_cases e0 : i = 5 <;> by_cases e1 : i = 6 <;> simp_all
  · rw [bn4.tv, an4.tv]
  · rw [bn4.rv, an4.rv]
set_option maxRecDepth 100000 in
set_option maxHeartbeats 1000000 in
theorem Var_any (w : World) (b : Nat) (G : Gg) (h : GM w b G) (hl : G.small 1000000000) :
    Calls Tryz.prog 26 #[.pointer (some ⟨b, 0, none⟩)] w fun e w' => e = .returned (.int .i64 ((G.xs 0).length : Nat)) ∧ ∃ G', GM w' b G' ∧ Ch (G.own b) w w' ∧ More w (G.own b) (G'.own b) ∧ (∀ i, G'.xs i = G.xs i ++ PutX 0 (-1) (-1) 0 i) ∧ G'.tv = G.tv ∧ G'.rv = G.rv := by
  have HP := Put_any w b G h hl 0 (-1) (-1) 0
  go_enter Tryz.func26, Tryz.ntmps26
  go_wp2_with (go_at_call 29; refine HP.mono ?_; clear HP; rintro e w1 ⟨rfl, h1⟩)
  go_ret
  exact ⟨rfl, h1⟩
set_option maxRecDepth 100000 in
set_option maxHeartbeats 1000000 in
theorem Open_any (w : World) (b : Nat) (G : Gg) (h : GM w b G) (hl : G.small 1000000000) :
    Calls Tryz.prog 27 #[.pointer (some ⟨b, 0, none⟩)] w fun e w' => e = .returned (.int .i64 ((G.xs 5).length : Nat)) ∧ ∃ G', GM w' b G' ∧ Ch (G.own b) w w' ∧ More w (G.own b) (G'.own b) ∧ (∀ i, G'.xs i = G.xs i ++ RowX (.slice none 0 0) (-1) i) ∧ G'.tv = G.tv ∧ G'.rv = G.rv := by
  have HP := PutRow_any w b G h hl none 0 0 (-1)
  go_enter Tryz.func27, Tryz.ntmps27
  go_wp2_with (go_at_call 28; refine HP.mono ?_; clear HP; rintro e w1 ⟨rfl, h1⟩)
  go_ret
  exact ⟨rfl, h1⟩

namespace Dg
/-- What lies at a place, if there is one. -/
def at? {α : Type} (l : List α) (i : Int) : Option α := if i < 0 then none else l[i.toNat]?
theorem at_some {α : Type} {l : List α} {i : Int} {x : α} (h : at? l i = some x) : ∃ n : Nat, i = (n : Int) ∧ l[n]? = some x := by
  unfold at? at h
  split at h
  · cases h
  · exact ⟨i.toNat, by omega, h⟩
/-- The node that a node stands for. -/
def find : Nat → List Int → Int → Option Int
  | 0, _, _ => none
  | f + 1, l, n => (at? l n).bind fun x => if 0 ≤ x then find f l x else some n
end Dg
def ints (l : List Int) : List Value := l.map (Value.int .i64)
theorem ints_at {l : List Int} {n : Nat} {x : Int} (h : l[n]? = some x) : (ints l)[n]? = some (.int .i64 x) := by simp [ints, h]

set_option maxRecDepth 100000 in
set_option maxHeartbeats 1000000 in
theorem Find_any (w : World) (b : Nat) (G : Gg) (h : GM w b G) (l : List Int) (hx : G.xs 4 = ints l) (f : Nat) (n m : Int) (hf : Dg.find f l n = some m) :
    Calls Tryz.prog 30 #[.pointer (some ⟨b, 0, none⟩), .int .i64 n] w fun e w' => e = .returned (.int .i64 m) ∧ w' = w := by
  obtain ⟨a, cap, hv, _, _⟩ := h.slice (i := 4) (by omega)
  have c4 := h.cells.2.2.2.2.1
  rw [hv] at c4
  have hln : (G.xs 4).length = l.length := by rw [hx]; simp [ints]
  go_enter Tryz.func30, Tryz.ntmps30
  go_wp2
  go_loopg [1] f (fun k v1 wr => ∃ n : Int, v1 = .int .i64 n ∧ Dg.find k l n = some m ∧ wr = w)
  case atStart => exact ⟨n, rfl, hf, rfl⟩
  case round =>
    obtain ⟨n, rfl, hf, rfl⟩ := hrel
    cases gk with
    | zero => cases hf
    | succ k =>
      unfold Dg.find at hf
      obtain ⟨x, h1, h2⟩ := Option.bind_eq_some_iff.1 hf
      obtain ⟨i, rfl, hi⟩ := Dg.at_some h1
      obtain ⟨g, cp, e1, e2, _, e4⟩ := h.at (i := 4) (j := i) (by omega) (u := .int .i64 x) (by rw [hx]; exact ints_at hi)
      rw [hv] at e1
      cases e1
      rw [hln] at c4 e4
      have i1 : (0 : Int) ≤ i := by omega
      have i2 : (i : Int) < (l.length : Int) := by omega
      clear h hv hf h1 hi hx
      by_cases hx0 : 0 ≤ x
      · rw [if_pos hx0] at h2
        replace h2 := hid h2
        go_wp2
        go_roundg k
        case measure => omega
        case rel => exact ⟨x, rfl, h2.out, rfl⟩
      · rw [if_neg hx0] at h2
        obtain rfl := Option.some.inj h2
        have hx1 : x < 0 := by omega
        go_wp2
        go_ret
        exact ⟨rfl, rfl⟩
end Go.Proofs.YtficijneelpmcaaGreat
