/-
  The statements' Same: are two codes the same?
-/
import Derived.Test.YticmoofjjikefaaDoorCn
import Derived.BigRegion
set_option linter.unusedVariables false
set_option linter.unusedSimpArgs false
namespace Go.Proofs.YticmoofjjikefaaDoor
open Go.RowKit Go.Lib

def codeV (C : Cd.Code) (b c d : Value) : Value := .agg #[.string ⟨C.shape.toArray⟩, b, c, d]

/-- Two codes' values lie in two blocks; what was there stands. -/
def SmS (w wr : World) (a b c d a2 b2 c2 d2 : Value) : Prop :=
  Below w.heap.size w wr ∧ w.heap.size + 2 ≤ wr.heap.size ∧ (wr.cell? ⟨w.heap.size, 0, none⟩ = some a ∧ wr.cell? ⟨w.heap.size, 1, none⟩ = some b ∧ wr.cell? ⟨w.heap.size, 2, none⟩ = some c ∧ wr.cell? ⟨w.heap.size, 3, none⟩ = some d) ∧
  (wr.cell? ⟨w.heap.size + 1, 0, none⟩ = some a2 ∧ wr.cell? ⟨w.heap.size + 1, 1, none⟩ = some b2 ∧ wr.cell? ⟨w.heap.size + 1, 2, none⟩ = some c2 ∧ wr.cell? ⟨w.heap.size + 1, 3, none⟩ = some d2)
theorem SmS.keep {w wr w' : World} {a b c d a2 b2 c2 d2 : Value} (h : SmS w wr a b c d a2 b2 c2 d2) (hb : Below wr.heap.size wr w') : SmS w w' a b c d a2 b2 c2 d2 := by
  obtain ⟨h1, h2, ⟨h3, h4, h5, h6⟩, k3, k4, k5, k6⟩ := h
  exact ⟨h1.trans (hb.mono h1.size), Nat.le_trans h2 hb.size, ⟨kc hb h3, kc hb h4, kc hb h5, kc hb h6⟩, kc hb k3, kc hb k4, kc hb k5, kc hb k6⟩

/-- The same within a loop that has two structs, in the blocks H and H + 1. -/
def SmL (w wr : World) (a b c d a2 b2 c2 d2 : Value) (H : Nat) (xs ys : List Value) : Prop :=
  SmS w wr a b c d a2 b2 c2 d2 ∧ (∀ i v, xs[i]? = some v → wr.cell? ⟨H, i, none⟩ = some v) ∧ ∀ i v, ys[i]? = some v → wr.cell? ⟨H + 1, i, none⟩ = some v
theorem SmL.keep {w wr w' : World} {a b c d a2 b2 c2 d2 : Value} {H : Nat} {xs ys : List Value} (h : SmL w wr a b c d a2 b2 c2 d2 H xs ys) (hb : Below wr.heap.size wr w') : SmL w w' a b c d a2 b2 c2 d2 H xs ys :=
  ⟨h.1.keep hb, fun i v hv => kc hb (h.2.1 i v hv), fun i v hv => kc hb (h.2.2 i v hv)⟩
theorem SmL.start {w wr : World} {a b c d a2 b2 c2 d2 : Value} {xs ys : List Value} {t : TypeId} (h : SmS w wr a b c d a2 b2 c2 d2) : SmL w ((wr.alloc (.cells xs.toArray t)).alloc (.cells ys.toArray t)) a b c d a2 b2 c2 d2 wr.heap.size xs ys := by
  refine ⟨h.keep (((Below.refl _ _).alloc (Nat.le_refl _) _).alloc (by simp) _), fun i v hv => ?_, fun i v hv => ?_⟩
  · simp [hv]
  · simp [hv]

theorem ne_code {C D : Cd.Code} (h : C ≠ D) : Ending.returned (.bool false) = .returned (.bool (decide (C = D))) := by simp [h]
theorem take_all {α : Type} {l k : List α} (h : l.length = k.length) (e : l.take l.length = k.take l.length) : l = k := by
  rw [List.take_length, h, List.take_length] at e
  exact e
theorem at_ne {α : Type} {l k : List α} {i : Nat} {x y : α} (hx : l[i]? = some x) (hy : k[i]? = some y) (h : x ≠ y) : l ≠ k := by
  intro e
  subst e
  rw [hx] at hy
  exact h (Option.some.inj hy)

/-- No list of a code is long. -/
def Cd.Code.small (C : Cd.Code) : Prop := C.ops.length ≤ 65535 ∧ C.hans.length ≤ 65535 ∧ C.funs.length ≤ 65535 ∧ (∀ h ∈ C.hans, h.ops.length ≤ 65535) ∧ ∀ f ∈ C.funs, f.ins.length ≤ 65535

set_option maxRecDepth 100000 in
set_option maxHeartbeats 8000000 in
theorem same_any (C D : Cd.Code) (b c d b2 c2 d2 : Value) (w : World) (hM : CodeM w b c d C) (hN : CodeM w b2 c2 d2 D) (hsm : C.small) :
    Calls Tryd.prog 7 #[codeV C b c d, codeV D b2 c2 d2] w fun e w' => e = .returned (.bool (decide (C = D))) ∧ Below w.heap.size w w' := by
  obtain ⟨⟨ao, co, rfl, hco, hx1⟩, ⟨ah, ch, rfl, hch, hx2⟩, ⟨af, cf, rfl, hcf, hx3⟩⟩ := hM
  obtain ⟨⟨bo, do_, rfl, hdo, hy1⟩, ⟨bh, dh, rfl, hdh, hy2⟩, ⟨bf, df, rfl, hdf, hy3⟩⟩ := hN
  obtain ⟨hs1, hs2, hs3, hs4, hs5⟩ := hsm
  have HS4 := hid hs4
  have HS5 := hid hs5
  clear hs4 hs5
  have HX1 := hid hx1
  have HX2 := hid hx2
  have HX3 := hid hx3
  have HY1 := hid hy1
  have HY2 := hid hy2
  have HY3 := hid hy3
  clear hx1 hx2 hx3 hy1 hy2 hy3
  unfold codeV
  by_cases hl : C.shape = D.shape ∧ C.ops.length = D.ops.length ∧ C.hans.length = D.hans.length ∧ C.funs.length = D.funs.length
  · obtain ⟨hl0, hl1, hl2, hl3⟩ := hl
    have HL0 := hid hl0
    rw [← hl0, ← hl1, ← hl2, ← hl3]
    rw [← hl1] at hdo
    rw [← hl2] at hdh
    rw [← hl3] at hdf
    have HL1 := hid hl1
    have HL2 := hid hl2
    have HL3 := hid hl3
    clear hl0 hl1 hl2 hl3
    go_enter Tryd.func7, Tryd.ntmps7
    go_wp2_with fail
    have HS : Hid (SmS w ((w.alloc (.cells #[.string ⟨C.shape.toArray⟩, .slice ao C.ops.length co, .slice ah C.hans.length ch, .slice af C.funs.length cf] 26)).alloc (.cells #[.string ⟨C.shape.toArray⟩, .slice bo C.ops.length do_, .slice bh C.hans.length dh, .slice bf C.funs.length df] 26)) (.string ⟨C.shape.toArray⟩) (.slice ao C.ops.length co) (.slice ah C.hans.length ch) (.slice af C.funs.length cf) (.string ⟨C.shape.toArray⟩) (.slice bo C.ops.length do_) (.slice bh C.hans.length dh) (.slice bf C.funs.length df)) := by
      refine ⟨((Below.refl _ _).alloc (Nat.le_refl _) _).alloc (by simp) _, by simp, ⟨by simp, by simp, by simp, by simp⟩, by simp, by simp, by simp, by simp⟩
    generalize (w.alloc _).alloc _ = W at HS
    go_loopw [5] (fun i wr => ∃ m : Nat, i = .int .i64 m ∧ m ≤ C.ops.length ∧ Hid (SmS w wr (.string ⟨C.shape.toArray⟩) (.slice ao C.ops.length co) (.slice ah C.hans.length ch) (.slice af C.funs.length cf) (.string ⟨C.shape.toArray⟩) (.slice bo C.ops.length do_) (.slice bh C.hans.length dh) (.slice bf C.funs.length df)) ∧ Hid (C.ops.take m = D.ops.take m)) (fun i _ => C.ops.length - (intOf i).toNat)
    case atStart => exact ⟨0, rfl, Nat.zero_le _, HS, by simp [Hid]⟩
    case round =>
      obtain ⟨m, rfl, hm, HS, HT⟩ := hrel
      obtain ⟨hb0, hz0, ⟨c0, c1, c2, c3⟩, k0, k1, k2, k3⟩ := HS.out
      by_cases hlt : m < C.ops.length
      · obtain ⟨x, hx, htx, _, hnx⟩ := at_some hlt
        obtain ⟨y, hy, hty, _, hny⟩ := at_some (show m < D.ops.length by have := HL1.out; omega)
        obtain ⟨g, k, hao, hcell⟩ := HX1.out hnx
        obtain ⟨g2, kk, hbo, hcell2⟩ := HY1.out hny
        subst hao
        subst hbo
        have e0 := kc hb0 (hcell m x hx).1
        have e1 := kc hb0 (hcell m x hx).2
        have f0 := kc hb0 (hcell2 m y hy).1
        have f1 := kc hb0 (hcell2 m y hy).2
        have HTX := hid htx
        have HTY := hid hty
        have HNE := hid (fun h => at_ne hx hy h)
        clear hcell hcell2 hb0 hx hy htx hty hnx hny
        have hli : (m : Int) < C.ops.length := by omega
        have hl0 : (0 : Int) ≤ m := by omega
        obtain ⟨xn, xo⟩ := x
        obtain ⟨yn, yo⟩ := y
        dsimp only at e0 e1 f0 f1
        by_cases hn : xn = yn
        · subst hn
          cases xo <;> cases yo
          · go_wp2_with fail
            go_region_held3 (fun w' => w'.cell? ⟨w.heap.size, 1, none⟩ = some (.slice (some ⟨g, k, none⟩) C.ops.length co) ∧ w'.cell? ⟨w.heap.size + 1, 1, none⟩ = some (.slice (some ⟨g2, kk, none⟩) C.ops.length do_) ∧ w'.cell? ⟨g, k + m * 2, none⟩ = some (.string ⟨xn.toArray⟩) ∧ w'.cell? ⟨g, k + m * 2 + 1, none⟩ = some (.bool false) ∧ w'.cell? ⟨g2, kk + m * 2, none⟩ = some (.string ⟨xn.toArray⟩) ∧ w'.cell? ⟨g2, kk + m * 2 + 1, none⟩ = some (.bool false)) (go_keep) (fail)
            go_wp2_with fail
            go_roundw
            case rel => exact ⟨m + 1, by go_num, by omega, hid (HS.out.keep (Below.refl _ _).drew), by rw [Hid, HTX.out, HTY.out, HT.out]⟩
            case measure => simp [intOf]; omega
          · go_wp2_with fail
            go_region_held3 (fun w' => w'.cell? ⟨w.heap.size, 1, none⟩ = some (.slice (some ⟨g, k, none⟩) C.ops.length co) ∧ w'.cell? ⟨w.heap.size + 1, 1, none⟩ = some (.slice (some ⟨g2, kk, none⟩) C.ops.length do_) ∧ w'.cell? ⟨g, k + m * 2, none⟩ = some (.string ⟨xn.toArray⟩) ∧ w'.cell? ⟨g, k + m * 2 + 1, none⟩ = some (.bool false) ∧ w'.cell? ⟨g2, kk + m * 2, none⟩ = some (.string ⟨xn.toArray⟩) ∧ w'.cell? ⟨g2, kk + m * 2 + 1, none⟩ = some (.bool true)) (go_keep) (fail)
            go_wp2_with fail
            go_ret
            exact ⟨ne_code (fun e => HNE.out (by simp) (by rw [e])), HS.out.1.drew⟩
          · go_wp2_with fail
            go_region_held3 (fun w' => w'.cell? ⟨w.heap.size, 1, none⟩ = some (.slice (some ⟨g, k, none⟩) C.ops.length co) ∧ w'.cell? ⟨w.heap.size + 1, 1, none⟩ = some (.slice (some ⟨g2, kk, none⟩) C.ops.length do_) ∧ w'.cell? ⟨g, k + m * 2, none⟩ = some (.string ⟨xn.toArray⟩) ∧ w'.cell? ⟨g, k + m * 2 + 1, none⟩ = some (.bool true) ∧ w'.cell? ⟨g2, kk + m * 2, none⟩ = some (.string ⟨xn.toArray⟩) ∧ w'.cell? ⟨g2, kk + m * 2 + 1, none⟩ = some (.bool false)) (go_keep) (fail)
            go_wp2_with fail
            go_ret
            exact ⟨ne_code (fun e => HNE.out (by simp) (by rw [e])), HS.out.1.drew⟩
          · go_wp2_with fail
            go_region_held3 (fun w' => w'.cell? ⟨w.heap.size, 1, none⟩ = some (.slice (some ⟨g, k, none⟩) C.ops.length co) ∧ w'.cell? ⟨w.heap.size + 1, 1, none⟩ = some (.slice (some ⟨g2, kk, none⟩) C.ops.length do_) ∧ w'.cell? ⟨g, k + m * 2, none⟩ = some (.string ⟨xn.toArray⟩) ∧ w'.cell? ⟨g, k + m * 2 + 1, none⟩ = some (.bool true) ∧ w'.cell? ⟨g2, kk + m * 2, none⟩ = some (.string ⟨xn.toArray⟩) ∧ w'.cell? ⟨g2, kk + m * 2 + 1, none⟩ = some (.bool true)) (go_keep) (fail)
            go_wp2_with fail
            go_roundw
            case rel => exact ⟨m + 1, by go_num, by omega, hid (HS.out.keep (Below.refl _ _).drew), by rw [Hid, HTX.out, HTY.out, HT.out]⟩
            case measure => simp [intOf]; omega
        · go_wp2_with fail
          go_region_held3 (fun w' => w'.cell? ⟨w.heap.size, 1, none⟩ = some (.slice (some ⟨g, k, none⟩) C.ops.length co) ∧ w'.cell? ⟨w.heap.size + 1, 1, none⟩ = some (.slice (some ⟨g2, kk, none⟩) C.ops.length do_) ∧ w'.cell? ⟨g, k + m * 2, none⟩ = some (.string ⟨xn.toArray⟩) ∧ w'.cell? ⟨g, k + m * 2 + 1, none⟩ = some (.bool xo) ∧ w'.cell? ⟨g2, kk + m * 2, none⟩ = some (.string ⟨yn.toArray⟩) ∧ w'.cell? ⟨g2, kk + m * 2 + 1, none⟩ = some (.bool yo)) (go_keep) (fail)
          go_wp2_with fail
          go_ret
          exact ⟨ne_code (fun e => HNE.out (by simp [hn]) (by rw [e])), HS.out.1.drew⟩
      · have em : m = C.ops.length := by omega
        subst em
        have HO : Hid (C.ops = D.ops) := take_all HL1.out HT.out
        clear HT HX1 HY1
        go_wp2_with fail
        clear c0 c1 c2 c3 k0 k1 k2 k3
        go_loopw [6] (fun i wr => ∃ m : Nat, i = .int .i64 m ∧ m ≤ C.hans.length ∧ Hid (SmS w wr (.string ⟨C.shape.toArray⟩) (.slice ao C.ops.length co) (.slice ah C.hans.length ch) (.slice af C.funs.length cf) (.string ⟨C.shape.toArray⟩) (.slice bo C.ops.length do_) (.slice bh C.hans.length dh) (.slice bf C.funs.length df)) ∧ Hid (C.hans.take m = D.hans.take m)) (fun i _ => C.hans.length - (intOf i).toNat)
        case atStart => exact ⟨0, rfl, Nat.zero_le _, HS, by simp [Hid]⟩
        case round =>
          obtain ⟨m, rfl, hm, HS, HT⟩ := hrel
          obtain ⟨hb0, hz0, ⟨c0, c1, c2, c3⟩, k0, k1, k2, k3⟩ := HS.out
          by_cases hlt : m < C.hans.length
          · obtain ⟨x, hx, htx, hmx, hnx⟩ := at_some hlt
            obtain ⟨y, hy, hty, _, hny⟩ := at_some (show m < D.hans.length by have := HL2.out; omega)
            have hxl := HS4.out x hmx
            obtain ⟨g, k, hao, hcell⟩ := HX2.out hnx
            obtain ⟨g2, kk, hbo, hcell2⟩ := HY2.out hny
            subst hao
            subst hbo
            obtain ⟨xs, xo⟩ := x
            obtain ⟨ys, yo⟩ := y
            have e0 := kc hb0 (hcell m _ hx).1
            obtain ⟨u, e1, ai, ci, rfl, hci, hix⟩ := (hcell m _ hx).2
            have e1 := kc hb0 e1
            have f0 := kc hb0 (hcell2 m _ hy).1
            obtain ⟨u2, f1, bi, di, rfl, hdi, hiy⟩ := (hcell2 m _ hy).2
            have f1 := kc hb0 f1
            dsimp only at e0 e1 f0 f1 hci hdi hix hiy hxl
            have HTX := hid htx
            have HTY := hid hty
            have HNE := hid (fun h => at_ne hx hy h)
            have HIX := hid hix
            have HIY := hid hiy
            clear hcell hcell2 hb0 hx hy htx hty hnx hny hix hiy hmx
            have hli : (m : Int) < C.hans.length := by omega
            have hl0 : (0 : Int) ≤ m := by omega
            have hzA : w.heap.size < wr.heap.size := by omega
            have hzB : w.heap.size + 1 < wr.heap.size := by omega
            have hgA : g < wr.heap.size := World.block_lt_of_cell? wr ⟨g, _, none⟩ e0
            have hgB : g2 < wr.heap.size := World.block_lt_of_cell? wr ⟨g2, _, none⟩ f0
            by_cases hsx : xs = ys ∧ xo.length = yo.length
            · obtain ⟨hs0, hs1⟩ := hsx
              subst hs0
              have HSE := hid hs1
              go_wp2_with fail
              have HV := hid (SmL.start (xs := [.bool xs, .slice ai yo.length ci]) (ys := [.bool xs, .slice bi yo.length di]) (t := 59) HS.out)
              clear e0 e1 f0 f1 c0 c1 c2 c3 k0 k1 k2 k3
              generalize (wr.alloc _).alloc _ = V at HV
              generalize wr.heap.size = H at HV
              rw [hs1] at hci hxl
              clear hs1 hzA hzB hgA hgB
              go_loopw [9] (fun i wr => ∃ n : Nat, i = .int .i64 n ∧ n ≤ yo.length ∧ Hid (SmL w wr (.string ⟨C.shape.toArray⟩) (.slice ao C.ops.length co) (.slice (some ⟨g, k, none⟩) C.hans.length ch) (.slice af C.funs.length cf) (.string ⟨C.shape.toArray⟩) (.slice bo C.ops.length do_) (.slice (some ⟨g2, kk, none⟩) C.hans.length dh) (.slice bf C.funs.length df) H [.bool xs, .slice ai yo.length ci] [.bool xs, .slice bi yo.length di]) ∧ Hid (xo.take n = yo.take n)) (fun i _ => yo.length - (intOf i).toNat)
              case atStart => exact ⟨0, rfl, Nat.zero_le _, HV, by simp [Hid]⟩
              case round =>
                obtain ⟨n, rfl, hn, HV, HTn⟩ := hrel
                have d0 := HV.out.2.1 1 _ rfl
                have d1 := HV.out.2.2 1 _ rfl
                obtain ⟨hb0, hz0, ⟨c0, c1, c2, c3⟩, k0, k1, k2, k3⟩ := HV.out.1
                by_cases hlt2 : n < yo.length
                · obtain ⟨x, hx, htx, _, hnx⟩ := at_some (show n < xo.length by have := HSE.out; omega)
                  obtain ⟨y, hy, hty, _, hny⟩ := at_some hlt2
                  obtain ⟨gi, ki, hai, hcell⟩ := HIX.out hnx
                  obtain ⟨gj, kj, hbi, hcell2⟩ := HIY.out hny
                  subst hai
                  subst hbi
                  have e0 := kc hb0 (hcell n _ hx)
                  have f0 := kc hb0 (hcell2 n _ hy)
                  have HTX2 := hid htx
                  have HTY2 := hid hty
                  have HNE2 := hid (fun h => at_ne hx hy h)
                  clear hcell hcell2 hb0 hx hy htx hty hnx hny
                  have hni : (n : Int) < yo.length := by omega
                  have hn0 : (0 : Int) ≤ n := by omega
                  by_cases hxy : x = y
                  · subst hxy
                    go_wp2_with fail
                    go_region_held3 (fun w' => w'.cell? ⟨H, 1, none⟩ = some (.slice (some ⟨gi, ki, none⟩) yo.length ci) ∧ w'.cell? ⟨H + 1, 1, none⟩ = some (.slice (some ⟨gj, kj, none⟩) yo.length di) ∧ w'.cell? ⟨gi, ki + n, none⟩ = some (.int .i64 x) ∧ w'.cell? ⟨gj, kj + n, none⟩ = some (.int .i64 x)) (go_keep) (fail)
                    go_wp2_with fail
                    go_roundw
                    case rel => exact ⟨n + 1, by go_num, by omega, hid (HV.out.keep (Below.refl _ _).drew), by rw [Hid, HTX2.out, HTY2.out, HTn.out]⟩
                    case measure => simp [intOf]; omega
                  · have hxb : (x == y) = false := by simpa using hxy
                    go_wp2_with fail
                    go_region_held3 (fun w' => w'.cell? ⟨H, 1, none⟩ = some (.slice (some ⟨gi, ki, none⟩) yo.length ci) ∧ w'.cell? ⟨H + 1, 1, none⟩ = some (.slice (some ⟨gj, kj, none⟩) yo.length di) ∧ w'.cell? ⟨gi, ki + n, none⟩ = some (.int .i64 x) ∧ w'.cell? ⟨gj, kj + n, none⟩ = some (.int .i64 y)) (go_keep) (fail)
                    go_wp2_with fail
                    go_ret
                    exact ⟨ne_code (fun e => HNE.out (fun e2 => HNE2.out hxy (by simpa using e2)) (by rw [e])), HV.out.1.1.drew⟩
                · have en : n = yo.length := by omega
                  subst en
                  have HXY : Hid (xo = yo) := by
                    have h1 := HSE.out
                    have h2 := HTn.out
                    rw [← h1] at h2
                    exact take_all h1 h2
                  go_wp2_with fail
                  go_roundw
                  case rel => exact ⟨m + 1, by go_num, by omega, hid HV.out.1, by rw [Hid, HTX.out, HTY.out, HT.out, HXY.out]⟩
                  case measure => simp [intOf]; omega
            · have HNQ : Hid ((⟨xs, xo⟩ : Cd.Han) ≠ ⟨ys, yo⟩) := fun e => by
                injection e with e1 e2
                exact hsx ⟨e1, by rw [e2]⟩
              have hcs : xs ≠ ys ∨ (xs = ys ∧ xo.length ≠ yo.length) := by
                by_cases h1 : xs = ys
                · exact .inr ⟨h1, fun h2 => hsx ⟨h1, h2⟩⟩
                · exact .inl h1
              clear hsx
              have HBF : ∀ (o1 o2 : Obj), Hid (Below w.heap.size w ((wr.alloc o1).alloc o2)) := fun o1 o2 => HS.out.1.trans ((((Below.refl wr.heap.size wr).alloc (Nat.le_refl _) o1).alloc (by simp) o2).mono HS.out.1.size)
              rcases hcs with hcs | ⟨rfl, hcs⟩
              · have hsb : (xs == ys) = false := by simpa using hcs
                have hsn : (xs != ys) = true := by simpa using hcs
                clear hcs
                go_wp2_with fail
                go_ret
                exact ⟨ne_code (fun e => HNE.out HNQ.out (by rw [e])), (HBF _ _).out⟩
              · have hln : ((xo.length : Nat) : Int) ≠ yo.length := by omega
                go_wp2_with fail
                go_ret
                exact ⟨ne_code (fun e => HNE.out HNQ.out (by rw [e])), (HBF _ _).out⟩
          · have em : m = C.hans.length := by omega
            subst em
            have HO2 : Hid (C.hans = D.hans) := take_all HL2.out HT.out
            clear HT HX2 HY2
            go_wp2_with fail
            clear c0 c1 c2 c3 k0 k1 k2 k3
            go_loopw [10] (fun i wr => ∃ m : Nat, i = .int .i64 m ∧ m ≤ C.funs.length ∧ Hid (SmS w wr (.string ⟨C.shape.toArray⟩) (.slice ao C.ops.length co) (.slice ah C.hans.length ch) (.slice af C.funs.length cf) (.string ⟨C.shape.toArray⟩) (.slice bo C.ops.length do_) (.slice bh C.hans.length dh) (.slice bf C.funs.length df)) ∧ Hid (C.funs.take m = D.funs.take m)) (fun i _ => C.funs.length - (intOf i).toNat)
            case atStart => exact ⟨0, rfl, Nat.zero_le _, HS, by simp [Hid]⟩
            case round =>
              obtain ⟨m, rfl, hm, HS, HT⟩ := hrel
              obtain ⟨hb0, hz0, ⟨c0, c1, c2, c3⟩, k0, k1, k2, k3⟩ := HS.out
              by_cases hlt : m < C.funs.length
              · obtain ⟨x, hx, htx, hmx, hnx⟩ := at_some hlt
                obtain ⟨y, hy, hty, _, hny⟩ := at_some (show m < D.funs.length by have := HL3.out; omega)
                have hxl := HS5.out x hmx
                obtain ⟨g, k, hao, hcell⟩ := HX3.out hnx
                obtain ⟨g2, kk, hbo, hcell2⟩ := HY3.out hny
                subst hao
                subst hbo
                obtain ⟨xf, xs, xo⟩ := x
                obtain ⟨yf, ys, yo⟩ := y
                have e0 := kc hb0 (hcell m _ hx).1
                have e1 := kc hb0 (hcell m _ hx).2.1
                obtain ⟨u, e2, ai, ci, rfl, hci, hix⟩ := (hcell m _ hx).2.2
                have e2 := kc hb0 e2
                have f0 := kc hb0 (hcell2 m _ hy).1
                have f1 := kc hb0 (hcell2 m _ hy).2.1
                obtain ⟨u2, f2, bi, di, rfl, hdi, hiy⟩ := (hcell2 m _ hy).2.2
                have f2 := kc hb0 f2
                dsimp only at e0 e1 e2 f0 f1 f2 hci hdi hix hiy hxl
                have HTX := hid htx
                have HTY := hid hty
                have HNE := hid (fun h => at_ne hx hy h)
                have HIX := hid hix
                have HIY := hid hiy
                clear hcell hcell2 hb0 hx hy htx hty hnx hny hix hiy hmx
                have hli : (m : Int) < C.funs.length := by omega
                have hl0 : (0 : Int) ≤ m := by omega
                have hzA : w.heap.size < wr.heap.size := by omega
                have hzB : w.heap.size + 1 < wr.heap.size := by omega
                have hgA : g < wr.heap.size := World.block_lt_of_cell? wr ⟨g, _, none⟩ e0
                have hgB : g2 < wr.heap.size := World.block_lt_of_cell? wr ⟨g2, _, none⟩ f0
                by_cases hsx : xf = yf ∧ xs = ys ∧ xo.length = yo.length
                · obtain ⟨hs0, hs0', hs1⟩ := hsx
                  subst hs0
                  subst hs0'
                  have HSE := hid hs1
                  go_wp2_with fail
                  have HV := hid (SmL.start (xs := [.int .i64 xf, .int .i64 xs, .slice ai yo.length ci]) (ys := [.int .i64 xf, .int .i64 xs, .slice bi yo.length di]) (t := 62) HS.out)
                  clear e0 e1 e2 f0 f1 f2 c0 c1 c2 c3 k0 k1 k2 k3
                  generalize (wr.alloc _).alloc _ = V at HV
                  generalize wr.heap.size = H at HV
                  rw [hs1] at hci hxl
                  clear hs1 hzA hzB hgA hgB
                  go_loopw [13] (fun i wr => ∃ n : Nat, i = .int .i64 n ∧ n ≤ yo.length ∧ Hid (SmL w wr (.string ⟨C.shape.toArray⟩) (.slice ao C.ops.length co) (.slice ah C.hans.length ch) (.slice (some ⟨g, k, none⟩) C.funs.length cf) (.string ⟨C.shape.toArray⟩) (.slice bo C.ops.length do_) (.slice bh C.hans.length dh) (.slice (some ⟨g2, kk, none⟩) C.funs.length df) H [.int .i64 xf, .int .i64 xs, .slice ai yo.length ci] [.int .i64 xf, .int .i64 xs, .slice bi yo.length di]) ∧ Hid (xo.take n = yo.take n)) (fun i _ => yo.length - (intOf i).toNat)
                  case atStart => exact ⟨0, rfl, Nat.zero_le _, HV, by simp [Hid]⟩
                  case round =>
                    obtain ⟨n, rfl, hn, HV, HTn⟩ := hrel
                    have d0 := HV.out.2.1 2 _ rfl
                    have d1 := HV.out.2.2 2 _ rfl
                    obtain ⟨hb0, hz0, ⟨c0, c1, c2, c3⟩, k0, k1, k2, k3⟩ := HV.out.1
                    by_cases hlt2 : n < yo.length
                    · obtain ⟨x, hx, htx, _, hnx⟩ := at_some (show n < xo.length by have := HSE.out; omega)
                      obtain ⟨y, hy, hty, _, hny⟩ := at_some hlt2
                      obtain ⟨gi, ki, hai, hcell⟩ := HIX.out hnx
                      obtain ⟨gj, kj, hbi, hcell2⟩ := HIY.out hny
                      subst hai
                      subst hbi
                      obtain ⟨p0, p1, p2, p3⟩ := x
                      obtain ⟨q0, q1, q2, q3⟩ := y
                      have e0 := kc hb0 (hcell n _ hx).1
                      have e1 := kc hb0 (hcell n _ hx).2.1
                      have e2 := kc hb0 (hcell n _ hx).2.2.1
                      have e3 := kc hb0 (hcell n _ hx).2.2.2
                      have f0 := kc hb0 (hcell2 n _ hy).1
                      have f1 := kc hb0 (hcell2 n _ hy).2.1
                      have f2 := kc hb0 (hcell2 n _ hy).2.2.1
                      have f3 := kc hb0 (hcell2 n _ hy).2.2.2
                      dsimp only at e0 e1 e2 e3 f0 f1 f2 f3
                      have HTX2 := hid htx
                      have HTY2 := hid hty
                      have HNE2 := hid (fun h => at_ne hx hy h)
                      clear hcell hcell2 hb0 hx hy htx hty hnx hny
                      have hni : (n : Int) < yo.length := by omega
                      have hn0 : (0 : Int) ≤ n := by omega
                      by_cases hj0 : p0 = q0
                      · subst hj0
                        by_cases hj1 : p1 = q1
                        · subst hj1
                          by_cases hj2 : p2 = q2
                          · subst hj2
                            by_cases hj3 : p3 = q3
                            · subst hj3
                              go_wp2_with fail
                              go_region_held3 (fun w' => w'.cell? ⟨H, 2, none⟩ = some (.slice (some ⟨gi, ki, none⟩) yo.length ci) ∧ w'.cell? ⟨H + 1, 2, none⟩ = some (.slice (some ⟨gj, kj, none⟩) yo.length di) ∧ w'.cell? ⟨gi, ki + n * 4, none⟩ = some (.int .i64 p0) ∧ w'.cell? ⟨gi, ki + n * 4 + 1, none⟩ = some (.int .i64 p1) ∧ w'.cell? ⟨gi, ki + n * 4 + 2, none⟩ = some (.int .i64 p2) ∧ w'.cell? ⟨gi, ki + n * 4 + 3, none⟩ = some (.int .i64 p3) ∧ w'.cell? ⟨gj, kj + n * 4, none⟩ = some (.int .i64 p0) ∧ w'.cell? ⟨gj, kj + n * 4 + 1, none⟩ = some (.int .i64 p1) ∧ w'.cell? ⟨gj, kj + n * 4 + 2, none⟩ = some (.int .i64 p2) ∧ w'.cell? ⟨gj, kj + n * 4 + 3, none⟩ = some (.int .i64 p3)) (go_keep) (fail)
                              go_wp2_with fail
                              go_roundw
                              case rel => exact ⟨n + 1, by go_num, by omega, hid (HV.out.keep (Below.refl _ _).drew), by rw [Hid, HTX2.out, HTY2.out, HTn.out]⟩
                              case measure => simp [intOf]; omega
                            · have hxb : (p3 == q3) = false := by simpa using hj3
                              go_wp2_with fail
                              go_region_held3 (fun w' => w'.cell? ⟨H, 2, none⟩ = some (.slice (some ⟨gi, ki, none⟩) yo.length ci) ∧ w'.cell? ⟨H + 1, 2, none⟩ = some (.slice (some ⟨gj, kj, none⟩) yo.length di) ∧ w'.cell? ⟨gi, ki + n * 4, none⟩ = some (.int .i64 p0) ∧ w'.cell? ⟨gi, ki + n * 4 + 1, none⟩ = some (.int .i64 p1) ∧ w'.cell? ⟨gi, ki + n * 4 + 2, none⟩ = some (.int .i64 p2) ∧ w'.cell? ⟨gi, ki + n * 4 + 3, none⟩ = some (.int .i64 p3) ∧ w'.cell? ⟨gj, kj + n * 4, none⟩ = some (.int .i64 p0) ∧ w'.cell? ⟨gj, kj + n * 4 + 1, none⟩ = some (.int .i64 p1) ∧ w'.cell? ⟨gj, kj + n * 4 + 2, none⟩ = some (.int .i64 p2) ∧ w'.cell? ⟨gj, kj + n * 4 + 3, none⟩ = some (.int .i64 q3)) (go_keep) (fail)
                              go_wp2_with fail
                              go_ret
                              exact ⟨ne_code (fun e => HNE.out (fun e2 => HNE2.out (fun e3 => hj3 (by injection e3)) (by injection e2)) (by rw [e])), HV.out.1.1.drew⟩
                          · have hxb : (p2 == q2) = false := by simpa using hj2
                            go_wp2_with fail
                            go_region_held3 (fun w' => w'.cell? ⟨H, 2, none⟩ = some (.slice (some ⟨gi, ki, none⟩) yo.length ci) ∧ w'.cell? ⟨H + 1, 2, none⟩ = some (.slice (some ⟨gj, kj, none⟩) yo.length di) ∧ w'.cell? ⟨gi, ki + n * 4, none⟩ = some (.int .i64 p0) ∧ w'.cell? ⟨gi, ki + n * 4 + 1, none⟩ = some (.int .i64 p1) ∧ w'.cell? ⟨gi, ki + n * 4 + 2, none⟩ = some (.int .i64 p2) ∧ w'.cell? ⟨gi, ki + n * 4 + 3, none⟩ = some (.int .i64 p3) ∧ w'.cell? ⟨gj, kj + n * 4, none⟩ = some (.int .i64 p0) ∧ w'.cell? ⟨gj, kj + n * 4 + 1, none⟩ = some (.int .i64 p1) ∧ w'.cell? ⟨gj, kj + n * 4 + 2, none⟩ = some (.int .i64 q2) ∧ w'.cell? ⟨gj, kj + n * 4 + 3, none⟩ = some (.int .i64 q3)) (go_keep) (fail)
                            go_wp2_with fail
                            go_ret
                            exact ⟨ne_code (fun e => HNE.out (fun e2 => HNE2.out (fun e3 => hj2 (by injection e3)) (by injection e2)) (by rw [e])), HV.out.1.1.drew⟩
                        · have hxb : (p1 == q1) = false := by simpa using hj1
                          go_wp2_with fail
                          go_region_held3 (fun w' => w'.cell? ⟨H, 2, none⟩ = some (.slice (some ⟨gi, ki, none⟩) yo.length ci) ∧ w'.cell? ⟨H + 1, 2, none⟩ = some (.slice (some ⟨gj, kj, none⟩) yo.length di) ∧ w'.cell? ⟨gi, ki + n * 4, none⟩ = some (.int .i64 p0) ∧ w'.cell? ⟨gi, ki + n * 4 + 1, none⟩ = some (.int .i64 p1) ∧ w'.cell? ⟨gi, ki + n * 4 + 2, none⟩ = some (.int .i64 p2) ∧ w'.cell? ⟨gi, ki + n * 4 + 3, none⟩ = some (.int .i64 p3) ∧ w'.cell? ⟨gj, kj + n * 4, none⟩ = some (.int .i64 p0) ∧ w'.cell? ⟨gj, kj + n * 4 + 1, none⟩ = some (.int .i64 q1) ∧ w'.cell? ⟨gj, kj + n * 4 + 2, none⟩ = some (.int .i64 q2) ∧ w'.cell? ⟨gj, kj + n * 4 + 3, none⟩ = some (.int .i64 q3)) (go_keep) (fail)
                          go_wp2_with fail
                          go_ret
                          exact ⟨ne_code (fun e => HNE.out (fun e2 => HNE2.out (fun e3 => hj1 (by injection e3)) (by injection e2)) (by rw [e])), HV.out.1.1.drew⟩
                      · have hxb : (p0 == q0) = false := by simpa using hj0
                        go_wp2_with fail
                        go_region_held3 (fun w' => w'.cell? ⟨H, 2, none⟩ = some (.slice (some ⟨gi, ki, none⟩) yo.length ci) ∧ w'.cell? ⟨H + 1, 2, none⟩ = some (.slice (some ⟨gj, kj, none⟩) yo.length di) ∧ w'.cell? ⟨gi, ki + n * 4, none⟩ = some (.int .i64 p0) ∧ w'.cell? ⟨gi, ki + n * 4 + 1, none⟩ = some (.int .i64 p1) ∧ w'.cell? ⟨gi, ki + n * 4 + 2, none⟩ = some (.int .i64 p2) ∧ w'.cell? ⟨gi, ki + n * 4 + 3, none⟩ = some (.int .i64 p3) ∧ w'.cell? ⟨gj, kj + n * 4, none⟩ = some (.int .i64 q0) ∧ w'.cell? ⟨gj, kj + n * 4 + 1, none⟩ = some (.int .i64 q1) ∧ w'.cell? ⟨gj, kj + n * 4 + 2, none⟩ = some (.int .i64 q2) ∧ w'.cell? ⟨gj, kj + n * 4 + 3, none⟩ = some (.int .i64 q3)) (go_keep) (fail)
                        go_wp2_with fail
                        go_ret
                        exact ⟨ne_code (fun e => HNE.out (fun e2 => HNE2.out (fun e3 => hj0 (by injection e3)) (by injection e2)) (by rw [e])), HV.out.1.1.drew⟩
                    · have en : n = yo.length := by omega
                      subst en
                      have HXY : Hid (xo = yo) := by
                        have h1 := HSE.out
                        have h2 := HTn.out
                        rw [← h1] at h2
                        exact take_all h1 h2
                      go_wp2_with fail
                      go_roundw
                      case rel => exact ⟨m + 1, by go_num, by omega, hid HV.out.1, by rw [Hid, HTX.out, HTY.out, HT.out, HXY.out]⟩
                      case measure => simp [intOf]; omega
                · have HNQ : Hid ((⟨xf, xs, xo⟩ : Cd.Fun) ≠ ⟨yf, ys, yo⟩) := fun e => by
                    injection e with e1 e2 e3
                    exact hsx ⟨e1, e2, by rw [e3]⟩
                  have hcs : xf ≠ yf ∨ (xf = yf ∧ xs ≠ ys) ∨ (xf = yf ∧ xs = ys ∧ xo.length ≠ yo.length) := by
                    by_cases h1 : xf = yf
                    · by_cases h2 : xs = ys
                      · exact .inr (.inr ⟨h1, h2, fun h3 => hsx ⟨h1, h2, h3⟩⟩)
                      · exact .inr (.inl ⟨h1, h2⟩)
                    · exact .inl h1
                  clear hsx
                  have HBF : ∀ (o1 o2 : Obj), Hid (Below w.heap.size w ((wr.alloc o1).alloc o2)) := fun o1 o2 => HS.out.1.trans ((((Below.refl wr.heap.size wr).alloc (Nat.le_refl _) o1).alloc (by simp) o2).mono HS.out.1.size)
                  rcases hcs with hcs | ⟨rfl, hcs⟩ | ⟨rfl, rfl, hcs⟩
                  · have hsb : (xf == yf) = false := by simpa using hcs
                    have hsn : (xf != yf) = true := by simpa using hcs
                    clear hcs
                    go_wp2_with fail
                    go_ret
                    exact ⟨ne_code (fun e => HNE.out HNQ.out (by rw [e])), (HBF _ _).out⟩
                  · have hsb : (xs == ys) = false := by simpa using hcs
                    have hsn : (xs != ys) = true := by simpa using hcs
                    clear hcs
                    go_wp2_with fail
                    go_ret
                    exact ⟨ne_code (fun e => HNE.out HNQ.out (by rw [e])), (HBF _ _).out⟩
                  · have hln : ((xo.length : Nat) : Int) ≠ yo.length := by omega
                    go_wp2_with fail
                    go_ret
                    exact ⟨ne_code (fun e => HNE.out HNQ.out (by rw [e])), (HBF _ _).out⟩
              · have em : m = C.funs.length := by omega
                subst em
                have HO3 : Hid (C.funs = D.funs) := take_all HL3.out HT.out
                go_wp2_with fail
                go_ret
                refine ⟨ret_bool ?_, HS.out.1⟩
                have : C = D := by
                  cases C
                  cases D
                  have h0 := HL0.out
                  have h1 := HO.out
                  have h2 := HO2.out
                  have h3 := HO3.out
                  dsimp only at h0 h1 h2 h3
                  rw [h0, h1, h2, h3]
                simp [this]
  · have HQ : Hid (C ≠ D) := fun e => hl ⟨by rw [e], by rw [e], by rw [e], by rw [e]⟩
    have hcs : C.shape ≠ D.shape ∨ (C.shape = D.shape ∧ C.ops.length ≠ D.ops.length) ∨ (C.shape = D.shape ∧ C.ops.length = D.ops.length ∧ C.hans.length ≠ D.hans.length) ∨ (C.shape = D.shape ∧ C.ops.length = D.ops.length ∧ C.hans.length = D.hans.length ∧ C.funs.length ≠ D.funs.length) := by
      by_cases h1 : C.shape = D.shape
      · by_cases h2 : C.ops.length = D.ops.length
        · by_cases h3 : C.hans.length = D.hans.length
          · exact .inr (.inr (.inr ⟨h1, h2, h3, fun h4 => hl ⟨h1, h2, h3, h4⟩⟩))
          · exact .inr (.inr (.inl ⟨h1, h2, h3⟩))
        · exact .inr (.inl ⟨h1, h2⟩)
      · exact .inl h1
    clear hl
    have HBF : ∀ (o1 o2 : Obj), Hid (Below w.heap.size w ((w.alloc o1).alloc o2)) := fun o1 o2 => ((Below.refl _ _).alloc (Nat.le_refl _) _).alloc (by simp) _
    go_enter Tryd.func7, Tryd.ntmps7
    rcases hcs with h1 | ⟨h1, h2⟩ | ⟨h1, h2, h3⟩ | ⟨h1, h2, h3, h4⟩
    · go_wp2_with fail
      go_ret
      exact ⟨ne_code HQ.out, (HBF _ _).out⟩
    · have hln : ((C.ops.length : Nat) : Int) ≠ D.ops.length := by omega
      go_wp2_with fail
      go_ret
      exact ⟨ne_code HQ.out, (HBF _ _).out⟩
    · have hln : ((C.hans.length : Nat) : Int) ≠ D.hans.length := by omega
      go_wp2_with fail
      go_ret
      exact ⟨ne_code HQ.out, (HBF _ _).out⟩
    · have hln : ((C.funs.length : Nat) : Int) ≠ D.funs.length := by omega
      go_wp2_with fail
      go_ret
      exact ⟨ne_code HQ.out, (HBF _ _).out⟩
end Go.Proofs.YticmoofjjikefaaDoor
