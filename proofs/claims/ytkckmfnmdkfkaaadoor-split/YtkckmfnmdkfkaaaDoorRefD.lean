/-
  What the document's Tokens answers, for every text.
-/
import Derived.Test.YtkckmfnmdkfkaaaDoorRefC
namespace Go.Proofs.YtkckmfnmdkfkaaaDoor
open Go.RowKit

def tkCells (t : Lx.Tk) : List Value := [.int .i64 t.kind, .int .i64 t.pos, .string ⟨t.text.toArray⟩, .int .i64 t.num]
def cellsOf (ts : List Lx.Tk) : List Value := ts.flatMap tkCells
theorem cellsOf_snoc (ts : List Lx.Tk) (t : Lx.Tk) : cellsOf ts ++ tkCells t = cellsOf (ts ++ [t]) := by simp [cellsOf]

def endOf : Except (Nat × Nat) (List Lx.Tk) → Nat × Nat × List Lx.Tk
  | .error (k, p) => (k, p, [])
  | .ok ts => (0, 0, ts)
/-- What every Tokens answers: the fault's kind and place, and the tokens. -/
def answer (s : ByteArray) : Nat × Nat × List Lx.Tk := if 3000 < s.size then (1, 0, []) else endOf (Lx.lex s.size 0 s.data.toList)
def TokPost (s : ByteArray) (w : World) (e : Ending) (w' : World) : Prop :=
  ∃ v, e = .returned (.tuple #[v, fltVal (answer s).1 (answer s).2.1]) ∧ w'.ownsRow w.heap.size 31 4 v (answer s).2.2.length (cellsOf (answer s).2.2) ∧ Below w.heap.size w w'

theorem answer_long {s : ByteArray} (h : 3000 < s.size) : answer s = (1, 0, []) := by simp [answer, h]
theorem answer_err {s : ByteArray} (h : s.size ≤ 3000) {k p : Nat} (hl : Lx.lex s.size 0 s.data.toList = .error (k, p)) : answer s = (k, p, []) := by
  rw [answer, if_neg (by omega), hl]; rfl
theorem answer_ok {s : ByteArray} (h : s.size ≤ 3000) {ts : List Lx.Tk} (hl : Lx.lex s.size 0 s.data.toList = .ok ts) : answer s = (0, 0, ts) := by
  rw [answer, if_neg (by omega), hl]; rfl

theorem step_end {s : ByteArray} {k j : Nat} (hp : PassTo s k j) (h : j = s.size) : Lx.lex s.size k (s.data.toList.drop k) = .ok [⟨0, s.size, [], 0⟩] := by
  rw [← hp.2.2.1, drop_end s j (by omega), Lx.lex_nil]
theorem step_ok {s : ByteArray} {k j : Nat} (hp : PassTo s k j) (h : j < s.size) {t : Lx.Tk} {n : Nat} (ht : Lx.tokAt j (s.data.toList.drop j) = .ok (t, n)) :
    Lx.lex s.size k (s.data.toList.drop k) = Lx.consTo t (Lx.lex s.size (j + n) (s.data.toList.drop (j + n))) := by
  have hq := hp.2.2.2 h
  rw [← hp.2.2.1]
  rw [drop_cons s j h] at ht ⊢
  rw [Lx.lex_tok _ _ _ _ hq.1 hq.2 ht, ← drop_cons s j h, List.drop_drop]
theorem step_err {s : ByteArray} {k j : Nat} (hp : PassTo s k j) (h : j < s.size) {e : Nat × Nat} (ht : Lx.tokAt j (s.data.toList.drop j) = .error e) :
    Lx.lex s.size k (s.data.toList.drop k) = .error e := by
  have hq := hp.2.2.2 h
  rw [← hp.2.2.1]
  rw [drop_cons s j h] at ht ⊢
  rw [Lx.lex_err _ _ _ _ hq.1 hq.2 ht]
theorem step_len {s : ByteArray} {j : Nat} (h : j < s.size) {t : Lx.Tk} {n : Nat} (ht : Lx.tokAt j (s.data.toList.drop j) = .ok (t, n)) : 1 ≤ n ∧ j + n ≤ s.size := by
  have hl : (s.data.toList.drop j).length = s.size - j := by simp
  rw [drop_cons s j h] at ht hl
  have := Lx.tokAt_pos ht
  omega
theorem tok_kind {pos : Nat} {l : List UInt8} {t : Lx.Tk} {n : Nat} (h : Lx.tokAt pos l = .ok (t, n)) : 1 ≤ t.kind ∧ t.kind ≤ 4 := by
  unfold Lx.tokAt at h
  by_cases h1 : (l.head?.map Lx.isDig).getD false = true
  · rw [if_pos h1] at h
    by_cases h2 : Lx.okNum (l.takeWhile Lx.isDig) = true
    · rw [if_pos h2] at h
      simp only [Except.ok.injEq, Prod.mk.injEq] at h
      rw [← h.1]; simp
    · rw [if_neg h2] at h; cases h
  · rw [if_neg h1] at h
    by_cases h2 : (l.head?.map Lx.isLet).getD false = true
    · rw [if_pos h2] at h
      by_cases h3 : (l.takeWhile Lx.isNm).length ≤ 20
      · rw [if_pos h3] at h
        simp only [Except.ok.injEq, Prod.mk.injEq] at h
        rw [← h.1]
        by_cases h4 : Lx.isWd (l.takeWhile Lx.isNm) = true <;> simp [h4]
      · rw [if_neg h3] at h; cases h
    · rw [if_neg h2] at h
      by_cases h3 : (l.head?.map Lx.isSg).getD false = true
      · rw [if_pos h3] at h
        simp only [Except.ok.injEq, Prod.mk.injEq] at h
        rw [← h.1]; simp
      · rw [if_neg h3] at h; cases h

theorem Tryd.info31 : (Tryd.prog.info? 31).map (fun i => (i.zero, i.size, i.bytes)) = some (some (.agg #[.int .i64 0, .int .i64 0, .string ⟨#[]⟩, .int .i64 0]), 4, 40) := by kernel_rfl

theorem grown_of_below {w w' : World} (h : Below w.heap.size w w') : w.grownBy w' none := ⟨h.os, h.tape, h.output, h.size, fun k hk _ => h.block k hk⟩
theorem own_below {w w' : World} {base : Nat} {e : TypeId} {size : Nat} {v : Value} {n : Nat} {xs : List Value} (h : w.ownsRow base e size v n xs) (hb : Below w.heap.size w w') : w'.ownsRow base e size v n xs :=
  h.kept (grown_of_below hb) (by cases hv : v.ownBlock <;> simp)

theorem new_cells {w : World} (t : Lx.Tk) (e : TypeId) : ∀ j u, (tkCells t)[j]? = some u → (w.alloc (.cells #[.int .i64 t.kind, .int .i64 t.pos, .string ⟨t.text.toArray⟩, .int .i64 t.num] e)).cell? ((⟨w.heap.size, 0, none⟩ : Addr).add j) = some u := by
  intro j u hj
  match j, hj with
  | 0, hj => simp [tkCells] at hj; subst hj; simp [Addr.add]
  | 1, hj => simp [tkCells] at hj; subst hj; simp [Addr.add]
  | 2, hj => simp [tkCells] at hj; subst hj; simp [Addr.add]
  | 3, hj => simp [tkCells] at hj; subst hj; simp [Addr.add]
  | n + 4, hj => simp [tkCells] at hj
theorem new_cells2 {w : World} (o1 o2 : Obj) (t : Lx.Tk) (e : TypeId) : ∀ j u, (tkCells t)[j]? = some u → (((w.alloc o1).alloc o2).alloc (.cells #[.int .i64 t.kind, .int .i64 t.pos, .string ⟨t.text.toArray⟩, .int .i64 t.num] e)).cell? ((⟨w.heap.size + 1 + 1, 0, none⟩ : Addr).add j) = some u := by
  have h := new_cells (w := (w.alloc o1).alloc o2) t e
  have e1 : ((w.alloc o1).alloc o2).heap.size = w.heap.size + 1 + 1 := by simp
  rw [e1] at h
  exact h
theorem one_cells (t : Lx.Tk) : ∀ u ∈ tkCells t, u.oneCell' = true := by
  intro u hu
  simp [tkCells] at hu
  rcases hu with rfl | rfl | rfl | rfl <;> rfl
theorem kind_kept {w1 w2 : World} {base n : Nat} {v x a1 a2 a3 : Value} {xs : List Value} {e : TypeId} {o2 o3 : Obj} (hown : w1.ownsRow base 31 4 v n xs)
    (hg : (((w1.alloc (.cells #[x, a1, a2, a3] e)).alloc o2).alloc o3).grownBy w2 v.ownBlock) : w2.cell? ⟨w1.heap.size, 0, none⟩ = some x :=
  hg.cell (a := ⟨w1.heap.size, 0, none⟩) (by rw [World.cell?_alloc_past _ _ _ (by simp; omega), World.cell?_alloc2_first]; rfl) (fun e => by have := (hown.lt _ e.symm).2; simp at this)

theorem answer_end {s : ByteArray} {k : Nat} {acc : List Lx.Tk} {t : Lx.Tk} (hs : s.size ≤ 3000) (h : Lx.appTo acc (Lx.lex s.size k (s.data.toList.drop k)) = Lx.lex s.size 0 s.data.toList) (hl : Lx.lex s.size k (s.data.toList.drop k) = .ok [t]) :
    answer s = (0, 0, acc ++ [t]) := by
  rw [hl] at h
  exact answer_ok hs h.symm
theorem step_app {s : ByteArray} {k m : Nat} {acc : List Lx.Tk} {t : Lx.Tk} (h : Lx.appTo acc (Lx.lex s.size k (s.data.toList.drop k)) = Lx.lex s.size 0 s.data.toList)
    (hl : Lx.lex s.size k (s.data.toList.drop k) = Lx.consTo t (Lx.lex s.size m (s.data.toList.drop m))) : Lx.appTo (acc ++ [t]) (Lx.lex s.size m (s.data.toList.drop m)) = Lx.lex s.size 0 s.data.toList := by
  rw [hl, Lx.appTo_cons] at h
  exact h
theorem answer_bad {s : ByteArray} {k a b : Nat} {acc : List Lx.Tk} (hs : s.size ≤ 3000) (h : Lx.appTo acc (Lx.lex s.size k (s.data.toList.drop k)) = Lx.lex s.size 0 s.data.toList) (hl : Lx.lex s.size k (s.data.toList.drop k) = .error (a, b)) :
    answer s = (a, b, []) := by
  rw [hl] at h
  exact answer_err hs h.symm
theorem own_app {w : World} {base : Nat} {v : Value} {acc : List Lx.Tk} {t : Lx.Tk} (h : w.ownsRow base 31 4 v (acc.length + 1) (cellsOf acc ++ tkCells t)) : w.ownsRow base 31 4 v (acc ++ [t]).length (cellsOf (acc ++ [t])) := by
  rw [cellsOf_snoc] at h
  simpa using h
theorem below_app {W w1 w2 : World} {B n : Nat} {v : Value} {xs : List Value} {o1 o2 o3 : Obj} (hb : Below B W w1) (hB : B ≤ w1.heap.size) (hown : w1.ownsRow B 31 4 v n xs) (hg : (((w1.alloc o1).alloc o2).alloc o3).grownBy w2 v.ownBlock) : Below B W w2 :=
  (((hb.alloc hB o1).alloc (by simp; omega) o2).alloc (by simp; omega) o3).grown hg (by simp; omega) (fun k hk => (hown.lt k hk).1)

theorem res_cells {w w2 : World} {a b : Value} {e : TypeId} (hb : Below (w.heap.size + 1) (w.alloc (.cells #[a, b] e)) w2) :
    w2.cell? ⟨w.heap.size, 0, none⟩ = some a ∧ w2.cell? ⟨w.heap.size, 1, none⟩ = some b ∧ w2.frozen? ⟨w.heap.size, 0, none⟩ = false ∧ w2.frozen? ⟨w.heap.size, 1, none⟩ = false := by
  obtain ⟨hc, hf⟩ := bcell hb
  refine ⟨(hc _ _ (by omega)).trans (by simp), (hc _ _ (by omega)).trans (by simp), (hf _ _ (by omega)).trans (by simp), (hf _ _ (by omega)).trans (by simp)⟩

theorem fin_own {w w2 : World} {v : Value} {n : Nat} {xs : List Value} (h : w2.ownsRow (w.heap.size + 1) 31 4 v n xs) (u0 u1 : Value) : ((w2.setCell ⟨w.heap.size, 0, none⟩ u0).setCell ⟨w.heap.size, 1, none⟩ u1).ownsRow w.heap.size 31 4 v n xs := by
  have h2 := ownsRow_setCell_below (ownsRow_setCell_below h (a := ⟨w.heap.size, 0, none⟩) (Nat.lt_succ_self _) u0) (a := ⟨w.heap.size, 1, none⟩) (Nat.lt_succ_self _) u1
  refine ⟨h2.1, ?_⟩
  rcases h2.2 with h3 | ⟨g, cap, cur, hv, hb, r⟩
  · exact .inl h3
  · exact .inr ⟨g, cap, cur, hv, by omega, r⟩
theorem fin_below {w w2 : World} {o : Obj} (h : Below (w.heap.size + 1) (w.alloc o) w2) (u0 u1 : Value) : Below w.heap.size w ((w2.setCell ⟨w.heap.size, 0, none⟩ u0).setCell ⟨w.heap.size, 1, none⟩ u1) :=
  ((((Below.refl _ w).alloc (Nat.le_refl _) o).trans (h.mono (Nat.le_succ _))).setCell (Nat.le_refl _) u0).setCell (Nat.le_refl _) u1
theorem tok_err {pos : Nat} {l : List UInt8} {k p : Nat} (h : Lx.tokAt pos l = .error (k, p)) : 2 ≤ k := by
  unfold Lx.tokAt at h
  by_cases h1 : (l.head?.map Lx.isDig).getD false = true
  · rw [if_pos h1] at h
    by_cases h2 : Lx.okNum (l.takeWhile Lx.isDig) = true
    · rw [if_pos h2] at h; cases h
    · rw [if_neg h2] at h; cases h; omega
  · rw [if_neg h1] at h
    by_cases h2 : (l.head?.map Lx.isLet).getD false = true
    · rw [if_pos h2] at h
      by_cases h3 : (l.takeWhile Lx.isNm).length ≤ 20
      · rw [if_pos h3] at h; cases h
      · rw [if_neg h3] at h; cases h; omega
    · rw [if_neg h2] at h
      by_cases h3 : (l.head?.map Lx.isSg).getD false = true
      · rw [if_pos h3] at h; cases h
      · rw [if_neg h3] at h; cases h; omega

set_option maxRecDepth 100000 in
set_option maxHeartbeats 2000000 in
theorem rtokens_any (s : ByteArray) (w : World) (hmax : s.size ≤ 140737488351232) :
    Calls Tryd.prog 6 #[.string s] w fun e w' => TokPost s w e w' := by
  obtain ⟨i0, hi, hz0, hz1, hz2⟩ := info_parts Tryd.info31
  by_cases hlong : 3000 < s.size
  · have HA := hid (answer_long hlong)
    go_enter Tryd.func6, Tryd.ntmps6
    go_wp2
    refine bodyPost_ret (v := .tuple #[.slice none 0 0, fltVal 1 0]) (by simp [results, Tryd.results6, go_sem, fltVal]) rfl ⟨_, by rw [HA.out], by rw [HA.out]; exact World.ownsRow_nil _ _ _ _, (Below.refl _ _).alloc (Nat.le_refl _) _⟩
  · go_enter Tryd.func6, Tryd.ntmps6
    go_wp2
    go_loopw [4, 5] (fun v i wr => ∃ (k : Nat) (acc : List Lx.Tk), i = .int .i64 k ∧ k ≤ s.size ∧ acc.length ≤ k ∧ wr.ownsRow (w.heap.size + 1) 31 4 v acc.length (cellsOf acc) ∧ Below (w.heap.size + 1) (w.alloc (.cells #[.int .i64 0, .int .i64 0] 25)) wr ∧ Hid (Lx.appTo acc (Lx.lex s.size k (s.data.toList.drop k)) = Lx.lex s.size 0 s.data.toList))
      (fun _ i _ => s.size - (intOf i).toNat)
    case atStart => exact ⟨0, [], rfl, Nat.zero_le _, Nat.zero_le _, World.ownsRow_nil _ _ _ _, Below.refl _ _, hid (by rw [Lx.appTo_nil]; rfl)⟩
    case round =>
      obtain ⟨k, acc, rfl, hk, hal, hown, hbw, H⟩ := hrel
      go_wp2_with fail
      refine (next_any s k _ (by omega) hk).mono ?_
      rintro e w1 ⟨hb1, j, HP0, hcase⟩
      have HP := hid HP0
      clear HP0
      rcases hcase with ⟨hje, rfl⟩ | ⟨hlt, t, n, ht, rfl⟩ | ⟨hlt, fk, fp, ht, rfl⟩
      · have hown1 := own_below hown hb1
        have hsz1 : w.heap.size + 1 ≤ wr.heap.size := by have := hbw.size; simp at this; exact this
        have hsz2 := hb1.size
        have hbw1 := hbw.trans (hb1.mono hsz1)
        simp only [tkVal, fltVal]
        go_wp2_with (at_builtin; go_must (refine wpList_append_own _ rfl (.tmp 24) (.tmp 26) 22 rfl (w.heap.size + 1) 31 i0 (.agg #[.int .i64 0, .int .i64 0, .string ⟨#[]⟩, .int .i64 0]) 4 40 Tryd.underlying22 hi hz0 hz1 hz2 rfl (by decide) u4 acc.length (cellsOf acc) rfl (((hown1.alloc _).alloc _).alloc _) ⟨w1.heap.size + 1 + 1, 0, none⟩ 1 1 (tkCells ⟨0, s.size, [], 0⟩) rfl rfl (new_cells2 _ _ _ _) (one_cells _) (by unfold maxLen; omega) (by omega) (by simp; omega) ?_); intro v' w2 hown2 hgrow _; have hkd := kind_kept hown1 hgrow; have HG := hid (below_app hbw1 (by omega) hown1 hgrow); obtain ⟨hr0, hr1, hf0, hf1⟩ := res_cells HG.out)
        have HE := hid (answer_end (show s.size ≤ 3000 by omega) H.out (step_end HP.out hje))
        have HO := hid (own_app hown2)
        refine bodyPost_ret (v := .tuple #[v', .agg #[.int .i64 0, .int .i64 0]]) (by simp [results, Tryd.results6, go_sem, hr0, hr1]) rfl ⟨v', by rw [HE.out]; rfl, by rw [HE.out]; exact fin_own HO.out _ _, fin_below HG.out _ _⟩
      · have HT := hid ht
        have HTL := hid (step_len hlt ht)
        have hkd0 := (tok_kind ht).1
        have hown1 := own_below hown hb1
        have hsz1 : w.heap.size + 1 ≤ wr.heap.size := by have := hbw.size; simp at this; exact this
        have hsz2 := hb1.size
        have hbw1 := hbw.trans (hb1.mono hsz1)
        have hne0 : ((t.kind : Int) == 0) = false := by simp; omega
        clear ht
        simp only [tkVal, fltVal]
        go_wp2_with (at_builtin; go_must (refine wpList_append_own _ rfl (.tmp 24) (.tmp 26) 22 rfl (w.heap.size + 1) 31 i0 (.agg #[.int .i64 0, .int .i64 0, .string ⟨#[]⟩, .int .i64 0]) 4 40 Tryd.underlying22 hi hz0 hz1 hz2 rfl (by decide) u4 acc.length (cellsOf acc) rfl (((hown1.alloc _).alloc _).alloc _) ⟨w1.heap.size + 1 + 1, 0, none⟩ 1 1 (tkCells t) rfl rfl (new_cells2 _ _ _ _) (one_cells _) (by unfold maxLen; omega) (by omega) (by simp; omega) ?_); intro v' w2 hown2 hgrow _; have hkd := kind_kept hown1 hgrow; have HG := hid (below_app hbw1 (by omega) hown1 hgrow); obtain ⟨hr0, hr1, hf0, hf1⟩ := res_cells HG.out)
        have HE := hid (step_app H.out (step_ok HP.out hlt HT.out))
        have HPJ := hid HP.out.1
        have HO := hid (own_app hown2)
        go_roundw
        case rel => exact ⟨j + n, acc ++ [t], by go_num, HTL.out.2, by have := HTL.out.1; have := HPJ.out; simp; omega, HO.out, HG.out, HE⟩
        case measure =>
          have := HTL.out
          have := HPJ.out
          simp [intOf]
          omega
      · have HT := hid ht
        have hsz1 : w.heap.size + 1 ≤ wr.heap.size := by have := hbw.size; simp at this; exact this
        have hsz2 := hb1.size
        have hbw1 := hbw.trans (hb1.mono hsz1)
        have hfk : ((fk : Int) != 0) = true := by have := tok_err ht; simp; omega
        have HE := hid (answer_bad (show s.size ≤ 3000 by omega) H.out (step_err HP.out hlt ht))
        clear ht
        obtain ⟨hr0, hr1, hf0, hf1⟩ := res_cells hbw1
        have hltb : w.heap.size < w1.heap.size := by omega
        simp only [tkVal, fltVal]
        go_wp2_with fail
        go_region
        go_wp2
        refine bodyPost_ret (v := .tuple #[.slice none 0 0, .agg #[.int .i64 fk, .int .i64 fp]]) (by simp [results, Tryd.results6, go_sem, hr0, hr1, hltb]) rfl ⟨_, by rw [HE.out]; rfl, by rw [HE.out]; exact World.ownsRow_nil _ _ _ _, (((fin_below hbw1 _ _).alloc (by simp; omega) _).alloc (by simp; omega) _).drew⟩
end Go.Proofs.YtkckmfnmdkfkaaaDoor
