/-
  Maps of numbers in memory: looking up, writing.
  The document's round, Round.
  The document's parts.
-/
import Derived.Test.YtficijneelpmcaaGreatMDk
import Derived.Laws.MakeOwn
set_option linter.unusedVariables false
set_option linter.unusedSimpArgs false
namespace Go.Proofs.YtficijneelpmcaaGreat
open Go.RowKit

namespace Dg
/-- A key's value is written. -/
def mput (k v : Int) : List (Int × Int) → List (Int × Int)
  | [] => [(k, v)]
  | p :: r => if k = p.1 then (k, v) :: r else p :: mput k v r
theorem mput_look (k v k' : Int) : ∀ (l : List (Int × Int)), (mput k v l).lookup k' = if k' = k then some v else l.lookup k'
  | [] => by
    by_cases e : k' = k
    · simp [mput, List.lookup, e]
    · have : (k' == k) = false := by simpa using e
      simp [mput, List.lookup, e, this]
  | p :: r => by
    unfold mput
    by_cases e : k = p.1
    · rw [if_pos e]
      by_cases e2 : k' = k
      · simp [List.lookup, e2]
      · have h1 : (k' == k) = false := by simpa using e2
        have h2 : (k' == p.1) = false := by rw [← e]; exact h1
        simp [List.lookup, e2, h1, h2]
    · rw [if_neg e]
      have ih := mput_look k v k' r
      by_cases e2 : k' = p.1
      · have e3 : ¬ p.1 = k := fun h => e h.symm
        simp [List.lookup, e2, e3]
      · have h2 : (k' == p.1) = false := by simpa using e2
        simp [List.lookup, h2, ih]
theorem mput_new {k v : Int} : ∀ {l : List (Int × Int)}, l.lookup k = none → mput k v l = l ++ [(k, v)]
  | [], _ => rfl
  | p :: r, h => by
    have e : ¬ k = p.1 := fun e => by simp [List.lookup, e] at h
    have e2 : (k == p.1) = false := by simpa using e
    have : r.lookup k = none := by simpa [List.lookup, e2] using h
    simp [mput, e, mput_new this]
end Dg
abbrev vI (p : Int × Int) : Value × Value := (Value.int .i64 p.1, Value.int .i64 p.2)
theorem findNow_int (k : Int) : ∀ (es : List MapEntry) (l : List (Int × Int)) (i : Nat), es.map (fun e => (e.key, e.val)) = l.map (fun p => (Value.int .i64 p.1, Value.int .i64 p.2)) →
    (l.lookup k = none → Instr.findNow (.int .i64) (.int .i64 k) es i = some none) ∧ (∀ v, l.lookup k = some v → ∃ j, Instr.findNow (.int .i64) (.int .i64 k) es i = some (some (i + j, .int .i64 v)) ∧ (es[j]?).map (·.key) = some (.int .i64 k) ∧
      ∀ v' : Int, (es.modify j fun e => { e with key := .int .i64 k, val := .int .i64 v' }).map (fun e => (e.key, e.val)) = (Dg.mput k v' l).map (fun p => (Value.int .i64 p.1, Value.int .i64 p.2)))
  | [], [], i, _ => ⟨fun _ => rfl, fun v h => by cases h⟩
  | [], _ :: _, _, h => by cases h
  | _ :: _, [], _, h => by cases h
  | e :: es, p :: l, i, h => by
    simp only [List.map_cons, List.cons.injEq, Prod.mk.injEq] at h
    obtain ⟨⟨hk, hv⟩, hr⟩ := h
    obtain ⟨h1, h2⟩ := findNow_int k es l (i + 1) hr
    by_cases e1 : k = p.1
    · refine ⟨fun h => by simp [List.lookup, e1] at h, fun v h => ⟨0, ?_, ?_, fun v' => ?_⟩⟩
      · have : p.2 = v := by simpa [List.lookup, e1] using h
        simp [Instr.findNow, Instr.sameNow, hk, hv, this, e1]
      · simp [hk, e1]
      · simp [Dg.mput, e1, hr, List.modify_zero_cons]
    · have e2 : (k == p.1) = false := by simp [e1]
      refine ⟨fun h => ?_, fun v h => ?_⟩
      · have : l.lookup k = none := by simpa [List.lookup, e2] using h
        simp [Instr.findNow, Instr.sameNow, hk, h1 this, e2]
      · have : l.lookup k = some v := by simpa [List.lookup, e2] using h
        obtain ⟨j, hj, hj2, hj3⟩ := h2 v this
        refine ⟨j + 1, ?_, by simpa using hj2, fun v' => ?_⟩
        · have e3 : i + 1 + j = i + (j + 1) := by omega
          simp [Instr.findNow, Instr.sameNow, hk, hj, e2, e3]
        · simp [Dg.mput, e1, hj3 v', hk, hv]
theorem Tryz.und3 : Tryz.prog.underlying 3 = some (.int .i64) := by kernel_rfl
theorem Tryz.undII : Tryz.prog.underlying 56 = some (.map 3 3) := by kernel_rfl
theorem ckInt (k : Int) (e : Bool) (w : World) : (Instr.checkKey e 10000 3 (.int .i64 k)).run Tryz.prog w = .ok () w := by
  unfold Instr.checkKey
  simp only [Sem.run_bind, run_underlying Tryz.und3, Result.andThen]
  rfl
theorem zero3 (w : World) : (zeroValue 3).run Tryz.prog w = .ok (.int .i64 0) w := by kernel_rfl
theorem run_look {w : World} {mB : Nat} {l : List (Int × Int)} (h : MI w mB l) (k : Int) : (Instr.lookup 56 (.map (some mB)) (.int .i64 k) false).run Tryz.prog w = .ok (.int .i64 ((l.lookup k).getD 0)) w := by
  obtain ⟨es, clock, hb, he⟩ := h
  obtain ⟨h1, h2⟩ := findNow_int k es.toList l 0 he
  cases hk : l.lookup k with
  | none =>
    simp only [Instr.lookup, Sem.run_bind, run_underlying Tryz.undII, Result.andThen_ok, MapKept.run_getObj_map hb, Sem.run_pure, ckInt, MapKept.run_findKey Tryz.und3 (h1 hk), zero3]
    rfl
  | some v =>
    obtain ⟨j, hj, _⟩ := h2 v hk
    simp only [Instr.lookup, Sem.run_bind, run_underlying Tryz.undII, Result.andThen_ok, MapKept.run_getObj_map hb, Sem.run_pure, ckInt, MapKept.run_findKey Tryz.und3 hj]
    rfl
theorem run_lookOk {w : World} {mB : Nat} {l : List (Int × Int)} (h : MI w mB l) (k : Int) : (Instr.lookup 56 (.map (some mB)) (.int .i64 k) true).run Tryz.prog w = .ok (.tuple #[.int .i64 ((l.lookup k).getD 0), .bool (l.lookup k).isSome]) w := by
  obtain ⟨es, clock, hb, he⟩ := h
  obtain ⟨h1, h2⟩ := findNow_int k es.toList l 0 he
  cases hk : l.lookup k with
  | none =>
    simp only [Instr.lookup, Sem.run_bind, run_underlying Tryz.undII, Result.andThen_ok, MapKept.run_getObj_map hb, Sem.run_pure, ckInt, MapKept.run_findKey Tryz.und3 (h1 hk), zero3]
    rfl
  | some v =>
    obtain ⟨j, hj, _⟩ := h2 v hk
    simp only [Instr.lookup, Sem.run_bind, run_underlying Tryz.undII, Result.andThen_ok, MapKept.run_getObj_map hb, Sem.run_pure, ckInt, MapKept.run_findKey Tryz.und3 hj]
    rfl
theorem keyStays (k : Int) (w : World) : (Instr.keyThatStays (.int .i64 k) (.int .i64 k)).run Tryz.prog w = .ok (.int .i64 k) w := by
  have : Instr.sameBits 10000 (.int .i64 k) (.int .i64 k) = true := by simp [Instr.sameBits]
  simp [Instr.keyThatStays, this]
def wput (w : World) (mB : Nat) (o : Obj) : World := { w with heap := w.heap.setIfInBounds mB o }
theorem run_upd {w : World} {mB : Nat} {l : List (Int × Int)} (h : MI w mB l) (k v : Int) : ∃ w', (Instr.mapUpdate 56 (.map (some mB)) (.int .i64 k) (.int .i64 v)).run Tryz.prog w = .ok () w' ∧ MI w' mB (Dg.mput k v l) ∧ Ch (fun j => j = mB) w w' := by
  obtain ⟨es, clock, hb, he⟩ := h
  obtain ⟨h1, h2⟩ := findNow_int k es.toList l 0 he
  cases hk : l.lookup k with
  | none =>
    refine ⟨wput w mB (.map (es.push { key := .int .i64 k, val := .int .i64 v, born := clock }) (clock + 1)), ?_, ⟨_, _, (MapKept.heap_set hb).1, ?_⟩, ⟨by simp [wput], fun j _ hne => (MapKept.heap_set hb).2 j hne, rfl, rfl⟩⟩
    · simp only [Instr.mapUpdate, Sem.run_bind, run_underlying Tryz.undII, Result.andThen_ok, MapKept.run_getObj_map hb, ckInt, MapKept.run_findKey Tryz.und3 (h1 hk)]
      exact MapKept.run_setObj_map _ hb
    · rw [Dg.mput_new hk]; simp [he]
  | some v0 =>
    obtain ⟨j, hj, hj2, hj3⟩ := h2 v0 hk
    rw [Nat.zero_add] at hj
    have hjk : (es[j]?).map (·.key) = some (.int .i64 k) := by simpa using hj2
    refine ⟨wput w mB (.map (es.modify j fun e => { e with key := .int .i64 k, val := .int .i64 v }) clock), ?_, ⟨_, _, (MapKept.heap_set hb).1, ?_⟩, ⟨by simp [wput], fun j _ hne => (MapKept.heap_set hb).2 j hne, rfl, rfl⟩⟩
    · simp only [Instr.mapUpdate, Sem.run_bind, run_underlying Tryz.undII, Result.andThen_ok, MapKept.run_getObj_map hb, ckInt, MapKept.run_findKey Tryz.und3 hj, hjk, Option.getD_some, keyStays]
      exact MapKept.run_setObj_map _ hb
    · rw [Array.toList_modify]
      exact hj3 v
end Go.Proofs.YtficijneelpmcaaGreat

namespace Go.Proofs.YtficijneelpmcaaGreat
open Go.RowKit

namespace Dg
def round (f : Nat) : Nat → D → Int → List (Int × Int) → Option (Bool × List (Int × Int))
  | 0, _, _, _ => none
  | k + 1, d, n, s => (find f d.link n).bind fun n =>
    if 0 < (s.lookup n).getD 0 then some (decide ((s.lookup n).getD 0 = 1), s) else
    (at? d.a n).bind fun a => (at? d.b n).bind fun b =>
    (if 0 ≤ a then round f k d a (mput n 1 s) else some (false, mput n 1 s)).bind fun p => if p.1 = true then some (true, p.2) else
    (if 0 ≤ b then round f k d b p.2 else some (false, p.2)).bind fun q => if q.1 = true then some (true, q.2) else some (false, mput n 2 q.2)
end Dg
/-- A block apart of a graph. -/
def Gg.out (G : Gg) (b s : Nat) : Prop := ¬ G.own b s ∧ ∀ (i : Nat) u, (G.xs 5)[i]? = some u → u.ownBlock ≠ some s
theorem GD.aside {w w' : World} {b s : Nat} {G : Gg} {d : Dg.D} (h : GD w b G d) (ho : G.out b s) (hc : Ch (fun j => j = s) w w') : GD w' b G d :=
  h.apart hc (fun k hk e => ho.1 (e ▸ hk)) (fun i u k hu hk e => ho.2 i u hu (e ▸ hk))
theorem Ch.same_two {s : Nat} {a b c : World} (h : Ch (fun j => j = s) a b) (k : Ch (fun j => j = s) b c) : Ch (fun j => j = s) a c := h.trans k (fun _ h => .inl h)
def RoundOK (b s f k : Nat) : Prop := ∀ {w : World} {G : Gg} {d : Dg.D} {n : Int} {l l' : List (Int × Int)} {r : Bool}, GD w b G d → G.out b s → MI w s l → Dg.round f k d n l = some (r, l') →
  Calls Tryz.prog 32 #[.pointer (some ⟨b, 0, none⟩), .int .i64 n, .map (some s)] w fun e w' => e = .returned (.bool r) ∧ MI w' s l' ∧ Ch (fun j => j = s) w w'

set_option maxRecDepth 100000 in
set_option maxHeartbeats 16000000 in
theorem Round_step {b s f k : Nat} (ih : RoundOK b s f k) : RoundOK b s f (k + 1) := by
  intro w G d n l l' r h ho hs hr
  unfold Dg.round at hr
  obtain ⟨n', fn, hr1⟩ := Option.bind_eq_some_iff.1 hr
  clear hr
  have H1 := h.Find fn
  obtain ⟨ni, rfl, hnl⟩ := find_at fn
  clear fn
  have n0 : (0 : Int) ≤ ni := by omega
  have hlk := run_look hs (ni : Int)
  replace ih := @hid _ @ih
  replace h := hid h
  go_enter Tryz.func32, Tryz.ntmps32
  go_upto_region 2 with (go_at_call 30; refine H1.mono ?_; clear H1; rintro e w1 ⟨rfl, hw1⟩; obtain rfl := hw1.symm)
  by_cases hx : 0 < (l.lookup (ni : Int)).getD 0
  · rw [if_pos hx] at hr1
    obtain ⟨rfl, rfl⟩ := Prod.mk.inj (Option.some.inj hr1)
    replace hs := hid hs
    go_wp2
    go_ret
    exact ⟨by first | rfl | simp | (congr 2), hs.out, Ch.refl _ _⟩
  · rw [if_neg hx] at hr1
    obtain ⟨a, ha, hr2⟩ := Option.bind_eq_some_iff.1 hr1
    obtain ⟨c, hc, hr3⟩ := Option.bind_eq_some_iff.1 hr2
    obtain ⟨⟨pr, l1⟩, hp, hr4⟩ := Option.bind_eq_some_iff.1 hr3
    obtain ⟨w1, hu, s1, c1⟩ := run_upd hs (ni : Int) 1
    have g1 := hid (h.out.aside ho c1)
    generalize (l.lookup (ni : Int)).getD 0 = x at *
    clear hr1 hr2 hr3 hs
    replace hr4 := hid hr4
    replace hp := hid hp
    replace s1 := hid s1
    go_upto_region 5 with (fail)
    clear hu hlk hx
    obtain ⟨xg, xc, x1, x2, _, x4⟩ := GD.intAt g1.out.gm (j := 1) (by omega) g1.out.x1 (at_nat ha)
    have xb := g1.out.gm.cells.2.1
    rw [x1] at xb
    have xi : (ni : Int) < (d.a.length : Int) := by omega
    clear x1
    by_cases ha0 : 0 ≤ a
    · have hp2 := hp.out
      rw [if_pos ha0] at hp2
      have HR := ih.out g1.out ho s1.out hp2
      clear hp2 hp
      cases pr with
      | true =>
        go_wp2_with (go_at_call 32; refine HR.mono ?_; clear HR; rintro e w2 ⟨rfl, s2, c2⟩)
        go_ret
        have hr6 := hr4.out
        simp only [if_true, Option.some.injEq, Prod.mk.injEq] at hr6
        obtain ⟨rfl, rfl⟩ := hr6
        exact ⟨rfl, s2, c1.same_two c2⟩
      | false =>
        have hr6 := hr4.out
        simp only [Bool.false_eq_true, if_false] at hr6
        replace hr4 := hid hr6
        clear hr6
        go_upto_region 9 with (go_at_call 32; refine HR.mono ?_; clear HR; rintro e w2 ⟨rfl, s2, c2⟩; have g2 := hid (g1.out.aside ho c2); replace s2 := hid s2)
        obtain ⟨⟨qr, l2⟩, hq, hr5⟩ := Option.bind_eq_some_iff.1 hr4.out
        clear hr4
        obtain ⟨yg, yc, y1, y2, _, y4⟩ := GD.intAt g2.out.gm (j := 2) (by omega) g2.out.x2 (at_nat hc)
        have yb := g2.out.gm.cells.2.2.1
        rw [y1] at yb
        have yi : (ni : Int) < (d.b.length : Int) := by omega
        clear y1
        by_cases hc0 : 0 ≤ c
        · rw [if_pos hc0] at hq
          have HR := ih.out g2.out ho s2.out hq
          replace hr5 := hid hr5
          clear hq
          cases qr with
          | true =>
            go_wp2_with (go_at_call 32; refine HR.mono ?_; clear HR; rintro e w3 ⟨rfl, s3, c3⟩)
            go_ret
            have hr6 := hr5.out
            simp only [if_true, Option.some.injEq, Prod.mk.injEq] at hr6
            obtain ⟨rfl, rfl⟩ := hr6
            exact ⟨rfl, s3, (c1.same_two c2).same_two c3⟩
          | false =>
            go_upto_region 13 with (go_at_call 32; refine HR.mono ?_; clear HR; rintro e w3 ⟨rfl, s3, c3⟩)
            obtain ⟨w4, hu4, s4, c4⟩ := run_upd s3 (ni : Int) 2
            replace s4 := hid s4
            clear s3
            go_wp2
            go_ret
            have hr6 := hr5.out
            simp only [Bool.false_eq_true, if_false] at hr6
            obtain ⟨rfl, rfl⟩ := Prod.mk.inj (Option.some.inj hr6)
            exact ⟨rfl, s4.out, ((c1.same_two c2).same_two c3).same_two c4⟩
        · rw [if_neg hc0] at hq
          obtain ⟨rfl, rfl⟩ := Prod.mk.inj (Option.some.inj hq)
          simp only [Bool.false_eq_true, if_false] at hr5
          obtain ⟨rfl, rfl⟩ := Prod.mk.inj (Option.some.inj hr5)
          go_upto_region 13 with (fail)
          obtain ⟨w4, hu4, s4, c4⟩ := run_upd s2.out (ni : Int) 2
          replace s4 := hid s4
          go_wp2
          go_ret
          exact ⟨rfl, s4.out, (c1.same_two c2).same_two c4⟩
    · have hp2 := hp.out
      rw [if_neg ha0] at hp2
      obtain ⟨rfl, rfl⟩ := Prod.mk.inj (Option.some.inj hp2)
      clear hp hp2
      have hr6 := hr4.out
      simp only [Bool.false_eq_true, if_false] at hr6
      replace hr4 := hid hr6
      clear hr6
      go_upto_region 9 with (fail)
      obtain ⟨⟨qr, l2⟩, hq, hr5⟩ := Option.bind_eq_some_iff.1 hr4.out
      clear hr4
      obtain ⟨yg, yc, y1, y2, _, y4⟩ := GD.intAt g1.out.gm (j := 2) (by omega) g1.out.x2 (at_nat hc)
      have yb := g1.out.gm.cells.2.2.1
      rw [y1] at yb
      have yi : (ni : Int) < (d.b.length : Int) := by omega
      clear y1
      by_cases hc0 : 0 ≤ c
      · rw [if_pos hc0] at hq
        have HR := ih.out g1.out ho s1.out hq
        replace hr5 := hid hr5
        clear hq
        cases qr with
        | true =>
          go_wp2_with (go_at_call 32; refine HR.mono ?_; clear HR; rintro e w3 ⟨rfl, s3, c3⟩)
          go_ret
          have hr6 := hr5.out
          simp only [if_true, Option.some.injEq, Prod.mk.injEq] at hr6
          obtain ⟨rfl, rfl⟩ := hr6
          exact ⟨rfl, s3, (c1).same_two c3⟩
        | false =>
          go_upto_region 13 with (go_at_call 32; refine HR.mono ?_; clear HR; rintro e w3 ⟨rfl, s3, c3⟩)
          obtain ⟨w4, hu4, s4, c4⟩ := run_upd s3 (ni : Int) 2
          replace s4 := hid s4
          clear s3
          go_wp2
          go_ret
          have hr6 := hr5.out
          simp only [Bool.false_eq_true, if_false] at hr6
          obtain ⟨rfl, rfl⟩ := Prod.mk.inj (Option.some.inj hr6)
          exact ⟨rfl, s4.out, ((c1).same_two c3).same_two c4⟩
      · rw [if_neg hc0] at hq
        obtain ⟨rfl, rfl⟩ := Prod.mk.inj (Option.some.inj hq)
        simp only [Bool.false_eq_true, if_false] at hr5
        obtain ⟨rfl, rfl⟩ := Prod.mk.inj (Option.some.inj hr5)
        go_upto_region 13 with (fail)
        obtain ⟨w4, hu4, s4, c4⟩ := run_upd s1.out (ni : Int) 2
        replace s4 := hid s4
        go_wp2
        go_ret
        exact ⟨rfl, s4.out, (c1).same_two c4⟩
theorem Round_any (b s f : Nat) : ∀ k, RoundOK b s f k
  | 0 => fun _ _ _ h => by cases h
  | k + 1 => Round_step (Round_any b s f k)
end Go.Proofs.YtficijneelpmcaaGreat

namespace Go.Proofs.YtficijneelpmcaaGreat
open Go.RowKit

namespace Dg
/-- A number of parts as it is told. -/
def fitP (x : Int) : Prop := 0 ≤ x ∧ x ≤ 1000000
instance (x : Int) : Decidable (fitP x) := by unfold fitP; infer_instance
def rowLen (f : Nat) (d : D) (kd : Int) (n : Int) : Option Int := if kd = 6 then (at? d.row n).bind fun r => (whole f d r []).bind fun p => if p.1.length < big then some (p.1.length : Int) else none else some 0
def parts (f : Nat) : Nat → D → Int → List (Int × Int) → Option (Int × List (Int × Int))
  | 0, _, _, _ => none
  | k + 1, d, n, s => (find f d.link n).bind fun n =>
    if 0 < (s.lookup n).getD 0 then some ((s.lookup n).getD 0, s) else
    (at? d.a n).bind fun a => (at? d.b n).bind fun b => (at? d.kind n).bind fun kd =>
    (if 0 ≤ a then parts f k d a s else some (0, s)).bind fun p =>
    (if 0 ≤ b then parts f k d b p.2 else some (0, p.2)).bind fun q =>
    (rowLen f d kd n).bind fun x => if fitP p.1 ∧ fitP q.1 then some (min (1 + p.1 + q.1 + x) 1000000, mput n (min (1 + p.1 + q.1 + x) 1000000) q.2) else none
end Dg
def PartsOK (b s f k : Nat) : Prop := ∀ {w : World} {G : Gg} {d : Dg.D} {n : Int} {l l' : List (Int × Int)} {r : Int}, GD w b G d → G.out b s → MI w s l → Dg.parts f k d n l = some (r, l') →
  Calls Tryz.prog 33 #[.pointer (some ⟨b, 0, none⟩), .int .i64 n, .map (some s)] w fun e w' => e = .returned (.int .i64 r) ∧ MI w' s l' ∧ Ch (fun j => j = s) w w'

set_option maxRecDepth 100000 in
set_option maxHeartbeats 16000000 in
theorem Parts_step {b s f k : Nat} (ih : PartsOK b s f k) : PartsOK b s f (k + 1) := by
  intro w G d n l l' r h ho hs hr
  unfold Dg.parts at hr
  obtain ⟨n', fn, hr1⟩ := Option.bind_eq_some_iff.1 hr
  clear hr
  have H1 := h.Find fn
  obtain ⟨ni, rfl, hnl⟩ := find_at fn
  clear fn
  have n0 : (0 : Int) ≤ ni := by omega
  have hlk := run_look hs (ni : Int)
  replace ih := @hid _ @ih
  replace h := hid h
  go_enter Tryz.func33, Tryz.ntmps33
  go_upto_region 2 with (go_at_call 30; refine H1.mono ?_; clear H1; rintro e w1 ⟨rfl, hw1⟩; obtain rfl := hw1.symm)
  by_cases hx : 0 < (l.lookup (ni : Int)).getD 0
  · rw [if_pos hx] at hr1
    obtain ⟨rfl, rfl⟩ := Prod.mk.inj (Option.some.inj hr1)
    replace hs := hid hs
    go_wp2
    go_ret
    exact ⟨by first | rfl | simp | (congr 2), hs.out, Ch.refl _ _⟩
  · rw [if_neg hx] at hr1
    obtain ⟨a, ha, hr2⟩ := Option.bind_eq_some_iff.1 hr1
    obtain ⟨c, hc, hr3⟩ := Option.bind_eq_some_iff.1 hr2
    obtain ⟨kd, hkd, hr4⟩ := Option.bind_eq_some_iff.1 hr3
    obtain ⟨⟨p, l1⟩, hp, hr5⟩ := Option.bind_eq_some_iff.1 hr4
    obtain ⟨⟨q, l2⟩, hq, hr6⟩ := Option.bind_eq_some_iff.1 hr5
    obtain ⟨x, hxr, hr7⟩ := Option.bind_eq_some_iff.1 hr6
    dsimp only at hr7 hq
    split at hr7
    case isFalse => cases hr7
    rename_i hpq
    obtain ⟨⟨p0, p1⟩, q0, q1⟩ := hpq
    obtain ⟨hm0, hl0⟩ := Prod.mk.inj (Option.some.inj hr7)
    generalize (l.lookup (ni : Int)).getD 0 = lk0 at *
    clear hr1 hr2 hr3 hr4 hr5 hr6 hr7
    replace hm0 := hid hm0
    replace hl0 := hid hl0
    replace hp := hid hp
    replace hq := hid hq
    replace hxr := hid hxr
    replace hs := hid hs
    have c0 : Ch (fun j => j = s) w w := Ch.refl _ _
    go_upto_region 5 with (fail)
    clear hlk hx
    obtain ⟨xg, xc, x1, x2, _, x4⟩ := GD.intAt h.out.gm (j := 1) (by omega) h.out.x1 (at_nat ha)
    have xb := h.out.gm.cells.2.1
    rw [x1] at xb
    have xi : (ni : Int) < (d.a.length : Int) := by omega
    clear x1
    by_cases ha0 : 0 ≤ a
    · have hp2 := hp.out
      rw [if_pos ha0] at hp2
      have HR := ih.out h.out ho hs.out hp2
      clear hp2 hp
      go_upto_region 7 with (go_at_call 33; refine HR.mono ?_; clear HR; rintro e w1 ⟨rfl, s1, c1⟩; have g1 := hid (h.out.aside ho c1); replace s1 := hid s1; replace c1 := c0.same_two c1)
      clear xb x2 x4
      obtain ⟨yg, yc, y1, y2, _, y4⟩ := GD.intAt g1.out.gm (j := 2) (by omega) g1.out.x2 (at_nat hc)
      have yb := g1.out.gm.cells.2.2.1
      rw [y1] at yb
      have yi : (ni : Int) < (d.b.length : Int) := by omega
      clear y1
      by_cases hc0 : 0 ≤ c
      · have hp2 := hq.out
        rw [if_pos hc0] at hp2
        have HR := ih.out g1.out ho s1.out hp2
        clear hp2 hq
        go_upto_region 9 with (go_at_call 33; refine HR.mono ?_; clear HR; rintro e w2 ⟨rfl, s2, c2⟩; have g2 := hid (g1.out.aside ho c2); replace s2 := hid s2; replace c2 := c1.same_two c2)
        clear yb y2 y4
        obtain ⟨zg, zc, z1, z2, _, z4⟩ := GD.intAt g2.out.gm (j := 0) (by omega) g2.out.x0 (at_nat hkd)
        have zb := g2.out.gm.cells.1
        rw [z1] at zb
        have zi : (ni : Int) < (d.kind.length : Int) := by omega
        clear z1
        by_cases hk6 : kd = 6
        · have hp2 := hxr.out
          unfold Dg.rowLen at hp2
          rw [if_pos hk6] at hp2
          obtain ⟨rr, hrr, hp3⟩ := Option.bind_eq_some_iff.1 hp2
          obtain ⟨⟨lw, vw⟩, hw, hp4⟩ := Option.bind_eq_some_iff.1 hp3
          dsimp only at hp4
          split at hp4
          case isFalse => cases hp4
          rename_i hlw
          have hp5 := Option.some.inj hp4
          have HW := g2.out.Whole hw
          clear hp2 hp3 hp4 hw
          subst hk6
          obtain ⟨ug, uc, u1, u2, _, u4⟩ := GD.intAt g2.out.gm (j := 3) (by omega) g2.out.x3 (at_nat hrr)
          have ub := g2.out.gm.cells.2.2.2.1
          rw [u1] at ub
          have ui : (ni : Int) < (d.row.length : Int) := by omega
          clear u1
          go_upto_region 11 with (go_at_call 35; refine HW.mono ?_; clear HW; rintro e w3 ⟨u, rfl, hF⟩; have s3 := hid (MI.keep s2.out (hF.2.1.same s (MI.lt s2.out) (fun h => h))); have c3 := c2.trans hF.2.1 (fun _ h => h.elim); obtain ⟨ua, uc, rfl, _⟩ := Fresh.sv hF; clear hF)
          clear ub u2 u4 zb z2 z4
          have hb1 : (lw.length : Int) < 1000000000 := by unfold Dg.big at hlw; omega
          subst hp5
          go_upto_region 12 with (fail)
          by_cases hm : (1000000 : Int) < 1 + p + q + (lw.length : Int)
          · first
            | (exfalso; omega)
            | (obtain ⟨w4, hu4, s4, c4⟩ := run_upd s3.out (ni : Int) 1000000
               replace s4 := hid s4
               go_wp2
               go_ret
               have hm1 := hm0.out
               have hl1 := hl0.out
               rw [hm1] at hl1
               obtain rfl : r = 1000000 := by omega
               subst hl1
               exact ⟨rfl, s4.out, c3.same_two c4⟩)
          · obtain ⟨w4, hu4, s4, c4⟩ := run_upd s3.out (ni : Int) (1 + p + q + (lw.length : Int))
            replace s4 := hid s4
            go_wp2
            go_ret
            have hm1 := hm0.out
            have hl1 := hl0.out
            rw [hm1] at hl1
            obtain rfl : r = 1 + p + q + (lw.length : Int) := by omega
            subst hl1
            exact ⟨rfl, s4.out, c3.same_two c4⟩
        · have hp2 := hxr.out
          unfold Dg.rowLen at hp2
          rw [if_neg hk6] at hp2
          obtain rfl := Option.some.inj hp2
          clear hp2
          go_upto_region 12 with (fail)
          clear zb z2 z4
          by_cases hm : (1000000 : Int) < 1 + p + q
          · first
            | (exfalso; omega)
            | (obtain ⟨w4, hu4, s4, c4⟩ := run_upd s2.out (ni : Int) 1000000
               replace s4 := hid s4
               go_wp2
               go_ret
               have hm1 := hm0.out
               have hl1 := hl0.out
               rw [hm1] at hl1
               obtain rfl : r = 1000000 := by omega
               subst hl1
               exact ⟨rfl, s4.out, c2.same_two c4⟩)
          · obtain ⟨w4, hu4, s4, c4⟩ := run_upd s2.out (ni : Int) (1 + p + q)
            replace s4 := hid s4
            go_wp2
            go_ret
            have hm1 := hm0.out
            have hl1 := hl0.out
            rw [hm1] at hl1
            obtain rfl : r = 1 + p + q := by omega
            subst hl1
            exact ⟨rfl, s4.out, c2.same_two c4⟩
      · have hp2 := hq.out
        rw [if_neg hc0] at hp2
        obtain ⟨rfl, rfl⟩ := Prod.mk.inj (Option.some.inj hp2)
        clear hp2 hq
        go_upto_region 9 with (fail)
        clear yb y2 y4
        obtain ⟨zg, zc, z1, z2, _, z4⟩ := GD.intAt g1.out.gm (j := 0) (by omega) g1.out.x0 (at_nat hkd)
        have zb := g1.out.gm.cells.1
        rw [z1] at zb
        have zi : (ni : Int) < (d.kind.length : Int) := by omega
        clear z1
        by_cases hk6 : kd = 6
        · have hp2 := hxr.out
          unfold Dg.rowLen at hp2
          rw [if_pos hk6] at hp2
          obtain ⟨rr, hrr, hp3⟩ := Option.bind_eq_some_iff.1 hp2
          obtain ⟨⟨lw, vw⟩, hw, hp4⟩ := Option.bind_eq_some_iff.1 hp3
          dsimp only at hp4
          split at hp4
          case isFalse => cases hp4
          rename_i hlw
          have hp5 := Option.some.inj hp4
          have HW := g1.out.Whole hw
          clear hp2 hp3 hp4 hw
          subst hk6
          obtain ⟨ug, uc, u1, u2, _, u4⟩ := GD.intAt g1.out.gm (j := 3) (by omega) g1.out.x3 (at_nat hrr)
          have ub := g1.out.gm.cells.2.2.2.1
          rw [u1] at ub
          have ui : (ni : Int) < (d.row.length : Int) := by omega
          clear u1
          go_upto_region 11 with (go_at_call 35; refine HW.mono ?_; clear HW; rintro e w3 ⟨u, rfl, hF⟩; have s3 := hid (MI.keep s1.out (hF.2.1.same s (MI.lt s1.out) (fun h => h))); have c3 := c1.trans hF.2.1 (fun _ h => h.elim); obtain ⟨ua, uc, rfl, _⟩ := Fresh.sv hF; clear hF)
          clear ub u2 u4 zb z2 z4
          have hb1 : (lw.length : Int) < 1000000000 := by unfold Dg.big at hlw; omega
          subst hp5
          go_upto_region 12 with (fail)
          by_cases hm : (1000000 : Int) < 1 + p + (lw.length : Int)
          · first
            | (exfalso; omega)
            | (obtain ⟨w4, hu4, s4, c4⟩ := run_upd s3.out (ni : Int) 1000000
               replace s4 := hid s4
               go_wp2
               go_ret
               have hm1 := hm0.out
               have hl1 := hl0.out
               rw [hm1] at hl1
               obtain rfl : r = 1000000 := by omega
               subst hl1
               exact ⟨rfl, s4.out, c3.same_two c4⟩)
          · obtain ⟨w4, hu4, s4, c4⟩ := run_upd s3.out (ni : Int) (1 + p + (lw.length : Int))
            replace s4 := hid s4
            go_wp2
            go_ret
            have hm1 := hm0.out
            have hl1 := hl0.out
            rw [hm1] at hl1
            obtain rfl : r = 1 + p + (lw.length : Int) := by omega
            subst hl1
            exact ⟨rfl, s4.out, c3.same_two c4⟩
        · have hp2 := hxr.out
          unfold Dg.rowLen at hp2
          rw [if_neg hk6] at hp2
          obtain rfl := Option.some.inj hp2
          clear hp2
          go_upto_region 12 with (fail)
          clear zb z2 z4
          by_cases hm : (1000000 : Int) < 1 + p
          · first
            | (exfalso; omega)
            | (obtain ⟨w4, hu4, s4, c4⟩ := run_upd s1.out (ni : Int) 1000000
               replace s4 := hid s4
               go_wp2
               go_ret
               have hm1 := hm0.out
               have hl1 := hl0.out
               rw [hm1] at hl1
               obtain rfl : r = 1000000 := by omega
               subst hl1
               exact ⟨rfl, s4.out, c1.same_two c4⟩)
          · obtain ⟨w4, hu4, s4, c4⟩ := run_upd s1.out (ni : Int) (1 + p)
            replace s4 := hid s4
            go_wp2
            go_ret
            have hm1 := hm0.out
            have hl1 := hl0.out
            rw [hm1] at hl1
            obtain rfl : r = 1 + p := by omega
            subst hl1
            exact ⟨rfl, s4.out, c1.same_two c4⟩
    · have hp2 := hp.out
      rw [if_neg ha0] at hp2
      obtain ⟨rfl, rfl⟩ := Prod.mk.inj (Option.some.inj hp2)
      clear hp2 hp
      go_upto_region 7 with (fail)
      clear xb x2 x4
      obtain ⟨yg, yc, y1, y2, _, y4⟩ := GD.intAt h.out.gm (j := 2) (by omega) h.out.x2 (at_nat hc)
      have yb := h.out.gm.cells.2.2.1
      rw [y1] at yb
      have yi : (ni : Int) < (d.b.length : Int) := by omega
      clear y1
      by_cases hc0 : 0 ≤ c
      · have hp2 := hq.out
        rw [if_pos hc0] at hp2
        have HR := ih.out h.out ho hs.out hp2
        clear hp2 hq
        go_upto_region 9 with (go_at_call 33; refine HR.mono ?_; clear HR; rintro e w2 ⟨rfl, s2, c2⟩; have g2 := hid (h.out.aside ho c2); replace s2 := hid s2; replace c2 := c0.same_two c2)
        clear yb y2 y4
        obtain ⟨zg, zc, z1, z2, _, z4⟩ := GD.intAt g2.out.gm (j := 0) (by omega) g2.out.x0 (at_nat hkd)
        have zb := g2.out.gm.cells.1
        rw [z1] at zb
        have zi : (ni : Int) < (d.kind.length : Int) := by omega
        clear z1
        by_cases hk6 : kd = 6
        · have hp2 := hxr.out
          unfold Dg.rowLen at hp2
          rw [if_pos hk6] at hp2
          obtain ⟨rr, hrr, hp3⟩ := Option.bind_eq_some_iff.1 hp2
          obtain ⟨⟨lw, vw⟩, hw, hp4⟩ := Option.bind_eq_some_iff.1 hp3
          dsimp only at hp4
          split at hp4
          case isFalse => cases hp4
          rename_i hlw
          have hp5 := Option.some.inj hp4
          have HW := g2.out.Whole hw
          clear hp2 hp3 hp4 hw
          subst hk6
          obtain ⟨ug, uc, u1, u2, _, u4⟩ := GD.intAt g2.out.gm (j := 3) (by omega) g2.out.x3 (at_nat hrr)
          have ub := g2.out.gm.cells.2.2.2.1
          rw [u1] at ub
          have ui : (ni : Int) < (d.row.length : Int) := by omega
          clear u1
          go_upto_region 11 with (go_at_call 35; refine HW.mono ?_; clear HW; rintro e w3 ⟨u, rfl, hF⟩; have s3 := hid (MI.keep s2.out (hF.2.1.same s (MI.lt s2.out) (fun h => h))); have c3 := c2.trans hF.2.1 (fun _ h => h.elim); obtain ⟨ua, uc, rfl, _⟩ := Fresh.sv hF; clear hF)
          clear ub u2 u4 zb z2 z4
          have hb1 : (lw.length : Int) < 1000000000 := by unfold Dg.big at hlw; omega
          subst hp5
          go_upto_region 12 with (fail)
          by_cases hm : (1000000 : Int) < 1 + q + (lw.length : Int)
          · first
            | (exfalso; omega)
            | (obtain ⟨w4, hu4, s4, c4⟩ := run_upd s3.out (ni : Int) 1000000
               replace s4 := hid s4
               go_wp2
               go_ret
               have hm1 := hm0.out
               have hl1 := hl0.out
               rw [hm1] at hl1
               obtain rfl : r = 1000000 := by omega
               subst hl1
               exact ⟨rfl, s4.out, c3.same_two c4⟩)
          · obtain ⟨w4, hu4, s4, c4⟩ := run_upd s3.out (ni : Int) (1 + q + (lw.length : Int))
            replace s4 := hid s4
            go_wp2
            go_ret
            have hm1 := hm0.out
            have hl1 := hl0.out
            rw [hm1] at hl1
            obtain rfl : r = 1 + q + (lw.length : Int) := by omega
            subst hl1
            exact ⟨rfl, s4.out, c3.same_two c4⟩
        · have hp2 := hxr.out
          unfold Dg.rowLen at hp2
          rw [if_neg hk6] at hp2
          obtain rfl := Option.some.inj hp2
          clear hp2
          go_upto_region 12 with (fail)
          clear zb z2 z4
          by_cases hm : (1000000 : Int) < 1 + q
          · first
            | (exfalso; omega)
            | (obtain ⟨w4, hu4, s4, c4⟩ := run_upd s2.out (ni : Int) 1000000
               replace s4 := hid s4
               go_wp2
               go_ret
               have hm1 := hm0.out
               have hl1 := hl0.out
               rw [hm1] at hl1
               obtain rfl : r = 1000000 := by omega
               subst hl1
               exact ⟨rfl, s4.out, c2.same_two c4⟩)
          · obtain ⟨w4, hu4, s4, c4⟩ := run_upd s2.out (ni : Int) (1 + q)
            replace s4 := hid s4
            go_wp2
            go_ret
            have hm1 := hm0.out
            have hl1 := hl0.out
            rw [hm1] at hl1
            obtain rfl : r = 1 + q := by omega
            subst hl1
            exact ⟨rfl, s4.out, c2.same_two c4⟩
      · have hp2 := hq.out
        rw [if_neg hc0] at hp2
        obtain ⟨rfl, rfl⟩ := Prod.mk.inj (Option.some.inj hp2)
        clear hp2 hq
        go_upto_region 9 with (fail)
        clear yb y2 y4
        obtain ⟨zg, zc, z1, z2, _, z4⟩ := GD.intAt h.out.gm (j := 0) (by omega) h.out.x0 (at_nat hkd)
        have zb := h.out.gm.cells.1
        rw [z1] at zb
        have zi : (ni : Int) < (d.kind.length : Int) := by omega
        clear z1
        by_cases hk6 : kd = 6
        · have hp2 := hxr.out
          unfold Dg.rowLen at hp2
          rw [if_pos hk6] at hp2
          obtain ⟨rr, hrr, hp3⟩ := Option.bind_eq_some_iff.1 hp2
          obtain ⟨⟨lw, vw⟩, hw, hp4⟩ := Option.bind_eq_some_iff.1 hp3
          dsimp only at hp4
          split at hp4
          case isFalse => cases hp4
          rename_i hlw
          have hp5 := Option.some.inj hp4
          have HW := h.out.Whole hw
          clear hp2 hp3 hp4 hw
          subst hk6
          obtain ⟨ug, uc, u1, u2, _, u4⟩ := GD.intAt h.out.gm (j := 3) (by omega) h.out.x3 (at_nat hrr)
          have ub := h.out.gm.cells.2.2.2.1
          rw [u1] at ub
          have ui : (ni : Int) < (d.row.length : Int) := by omega
          clear u1
          go_upto_region 11 with (go_at_call 35; refine HW.mono ?_; clear HW; rintro e w3 ⟨u, rfl, hF⟩; have s3 := hid (MI.keep hs.out (hF.2.1.same s (MI.lt hs.out) (fun h => h))); have c3 := c0.trans hF.2.1 (fun _ h => h.elim); obtain ⟨ua, uc, rfl, _⟩ := Fresh.sv hF; clear hF)
          clear ub u2 u4 zb z2 z4
          have hb1 : (lw.length : Int) < 1000000000 := by unfold Dg.big at hlw; omega
          subst hp5
          go_upto_region 12 with (fail)
          by_cases hm : (1000000 : Int) < 1 + (lw.length : Int)
          · first
            | (exfalso; omega)
            | (obtain ⟨w4, hu4, s4, c4⟩ := run_upd s3.out (ni : Int) 1000000
               replace s4 := hid s4
               go_wp2
               go_ret
               have hm1 := hm0.out
               have hl1 := hl0.out
               rw [hm1] at hl1
               obtain rfl : r = 1000000 := by omega
               subst hl1
               exact ⟨rfl, s4.out, c3.same_two c4⟩)
          · obtain ⟨w4, hu4, s4, c4⟩ := run_upd s3.out (ni : Int) (1 + (lw.length : Int))
            replace s4 := hid s4
            go_wp2
            go_ret
            have hm1 := hm0.out
            have hl1 := hl0.out
            rw [hm1] at hl1
            obtain rfl : r = 1 + (lw.length : Int) := by omega
            subst hl1
            exact ⟨rfl, s4.out, c3.same_two c4⟩
        · have hp2 := hxr.out
          unfold Dg.rowLen at hp2
          rw [if_neg hk6] at hp2
          obtain rfl := Option.some.inj hp2
          clear hp2
          go_upto_region 12 with (fail)
          clear zb z2 z4
          by_cases hm : (1000000 : Int) < 1
          · first
            | (exfalso; omega)
            | (obtain ⟨w4, hu4, s4, c4⟩ := run_upd hs.out (ni : Int) 1000000
               replace s4 := hid s4
               go_wp2
               go_ret
               have hm1 := hm0.out
               have hl1 := hl0.out
               rw [hm1] at hl1
               obtain rfl : r = 1000000 := by omega
               subst hl1
               exact ⟨rfl, s4.out, c0.same_two c4⟩)
          · obtain ⟨w4, hu4, s4, c4⟩ := run_upd hs.out (ni : Int) (1)
            replace s4 := hid s4
            go_wp2
            go_ret
            have hm1 := hm0.out
            have hl1 := hl0.out
            rw [hm1] at hl1
            obtain rfl : r = 1 := by omega
            subst hl1
            exact ⟨rfl, s4.out, c0.same_two c4⟩
theorem Parts_any (b s f : Nat) : ∀ k, PartsOK b s f k
  | 0 => fun _ _ _ h => by cases h
  | k + 1 => Parts_step (Parts_any b s f k)
end Go.Proofs.YtficijneelpmcaaGreat
