/-
  The program's printer in memory: the tokens that were said; say.
  A printer that is written into, and what stands beside it; say of one to four tokens that are laid at once.
  The program's printer: behind; fn, if, pairs, what a handler returns.
-/
import Derived.Test.YtddnnlldkdljoaaGreatDoorMMem
import Derived.OwnWalk
import Derived.Laws.AppendOwn
import Derived.Lib.OthersKept
import Derived.ProofKit
import Derived.OneCell
namespace Go.Proofs.YtddnnlldkdljoaaGreatDoor
open Go.RowKit

theorem info9 : (Tryz.prog.info? 9).map (fun i => (i.zero, i.size, i.bytes)) = some (some (.string ⟨#[]⟩), 1, 16) := by kernel_rfl
def strV (x : List UInt8) : Value := .string ⟨x.toArray⟩
/-- A printer in block b, its tokens. -/
def PrAt (B b : Nat) (l : List (List UInt8)) (w : World) : Prop := B ≤ b ∧ ∃ v, w.heap[b]? = some (.cells #[v] 48 (0, 0)) ∧ w.ownsRow B 9 1 v l.length (l.map strV) ∧ v.ownBlock ≠ some b

theorem lt_of_obj {w : World} {b : Nat} {o : Obj} (h : w.heap[b]? = some o) : b < w.heap.size := by
  rcases Nat.lt_or_ge b w.heap.size with h1 | h1
  · exact h1
  · rw [Array.getElem?_eq_none h1] at h; cases h

set_option maxRecDepth 100000 in
set_option maxHeartbeats 4000000 in
theorem say_any (W : World) (B b : Nat) (l toks : List (List UInt8)) (g c : Nat) (h : PrAt B b l W) (hB : B ≤ W.heap.size) (hl : l.length + toks.length ≤ 1000000) (hsrc : ∀ j (h : j < toks.length), W.cell? ⟨g, j, none⟩ = some (strV toks[j])) :
    Calls Tryz.prog 49 #[.pointer (some ⟨b, 0, none⟩), .slice (some ⟨g, 0, none⟩) toks.length c] W fun e w' => e = .returned (.tuple #[]) ∧ Hid (PrAt B b (l ++ toks) w') ∧ Hid (Below B W w') ∧ Hid (Lib.OthersKept 9 (some b) W w') := by
  obtain ⟨hBb, v, hv, hown, hne⟩ := h
  obtain ⟨i0, hi, hz0, hz1, hz2⟩ := info_parts info9
  have hblt := lt_of_obj hv
  have c0 : W.cell? ⟨b, 0, none⟩ = some v := by simp [World.cell?, hv]
  have f0 : W.frozen? ⟨b, 0, none⟩ = false := by simp [World.frozen?, hv]
  have hfit := hown
  have hsv : ∃ a k m, v = .slice a k m := by
    rcases hown.2 with ⟨h1, _⟩ | ⟨g, cap, cur, h1, _⟩
    · exact ⟨_, _, _, h1⟩
    · exact ⟨_, _, _, h1⟩
  have HO := hid hown
  have HS := hid hsrc
  obtain ⟨sa, sk, sm, hsv⟩ := hsv
  subst hsv
  clear hown hfit hsrc
  go_enter Tryz.func49, Tryz.ntmps49
  go_wp2_with (at_builtin; refine wpList_append_own _ rfl (.tmp 8) (.tmp 9) 46 rfl B 9 i0 (.string ⟨#[]⟩) 1 16 Tryz.underlying46 hi hz0 hz1 hz2 rfl (by decide) (.slice sa sk sm) l.length (l.map strV) rfl HO.out ⟨g, 0, none⟩ toks.length c (toks.map strV) rfl (by simp) ?c1 ?c2 (by unfold maxLen; omega) (by omega) hB ?grow)
  case c1 =>
    intro j u hu
    have hj : j < toks.length := by have := (List.getElem?_eq_some_iff.1 hu).1; simpa using this
    have := HS.out j hj
    rw [List.getElem?_map, List.getElem?_eq_getElem hj] at hu
    simp only [Option.map_some, Option.some.injEq] at hu
    rw [← hu, ← this]
    unfold Addr.add
    split <;> simp_all
  case c2 =>
    intro u hu
    simp only [List.mem_map] at hu
    obtain ⟨x, _, rfl⟩ := hu
    rfl
  case grow =>
    intro v' w' h1 h2 h3
    have hbw : w'.heap[b]? = some (.cells #[.slice sa sk sm] 48 (0, 0)) := (h2.block b hblt (fun e => hne e.symm)).trans hv
    have c1 : w'.cell? ⟨b, 0, none⟩ = some (.slice sa sk sm) := by simp [World.cell?, hbw]
    have f1 : w'.frozen? ⟨b, 0, none⟩ = false := by simp [World.frozen?, hbw]
    have hsl : ∃ a k m, v' = .slice a k m := by
      rcases h1.2 with ⟨e1, _⟩ | ⟨g, cap, cur, e1, _⟩
      · exact ⟨_, _, _, e1⟩
      · exact ⟨_, _, _, e1⟩
    obtain ⟨a2, k2, m2, rfl⟩ := hsl
    have H1 := hid h1
    have H2 := hid h2
    have HBW := hid hbw
    clear h1 h2 h3 hbw
    go_wp2_with fail
    go_end0
    have hlen : (l ++ toks).length = l.length + toks.length := List.length_append
    have hne2 : ∀ g' cur, w'.heap[g']? = some (.cells cur 9 (0, 0)) → g' ≠ b := by
      rintro g' cur hg' rfl
      rw [HBW.out] at hg'
      simp at hg'
    refine ⟨rfl, ⟨hBb, .slice a2 k2 m2, one_setCell HBW.out, ?_, ?_⟩, ?_, ?_⟩
    · rw [hlen, List.map_append]
      obtain ⟨q1, q2⟩ := H1.out
      refine ⟨q1, ?_⟩
      rcases q2 with q2 | ⟨g', cap, cur, r1, r2, r3, r4⟩
      · exact .inl q2
      · exact .inr ⟨g', cap, cur, r1, r2, (Below.heap_setCell _ _ _ _ (hne2 g' cur r3)).trans r3, r4⟩
    · rcases H1.out.2 with ⟨q2, _⟩ | ⟨g', cap, cur, r1, r2, r3, r4⟩
      · simp only [Value.slice.injEq] at q2
        obtain ⟨rfl, _⟩ := q2
        simp [Value.ownBlock]
      · simp only [Value.slice.injEq] at r1
        obtain ⟨rfl, _⟩ := r1
        simpa [Value.ownBlock] using hne2 g' cur r3
    · exact ((Below.refl B W).grown H2.out hB (fun k hk => (HO.out.lt k hk).1)).setCell (p := ⟨b, 0, none⟩) hBb _
    · refine ((Lib.OthersKept.refl 9 (some b) W).grown H2.out (fun g' hg' => ?_)).setCell ⟨b, 0, none⟩ rfl _
      rcases HO.out.2 with ⟨q2, _⟩ | ⟨g2, cap, cur, r1, r2, r3, r4⟩
      · simp only [Value.slice.injEq] at q2
        obtain ⟨rfl, _⟩ := q2
        simp [Value.ownBlock] at hg'
      · simp only [Value.slice.injEq] at r1
        obtain ⟨rfl, _⟩ := r1
        simp only [Value.ownBlock, Option.some.injEq] at hg'
        subst hg'
        exact ⟨cur, _, r3⟩
end Go.Proofs.YtddnnlldkdljoaaGreatDoor

namespace Go.Proofs.YtddnnlldkdljoaaGreatDoor
open Go.RowKit

structure Pw (w0 w W : World) (B b H : Nat) (cs : Array Value) (l : List (List UInt8)) : Prop where
  pr : PrAt B b l W
  bel : Below B w W
  oth : Lib.OthersKept 9 (some b) w W
  box : W.heap[H]? = some (.cells cs 24 (0, 0))
  new : Below w0.heap.size w0 W
  sz : B ≤ W.heap.size
/-- What a call that says tokens answers. -/
def PPost (w : World) (B b : Nat) (l : List (List UInt8)) (e : Ending) (w' : World) : Prop :=
  e = .returned (.tuple #[]) ∧ Hid (PrAt B b l w') ∧ Hid (Below B w w') ∧ Hid (Lib.OthersKept 9 (some b) w w')
theorem pr_past {B b : Nat} {l : List (List UInt8)} {w w' : World} (h : PrAt B b l w) (hb : Below w.heap.size w w') : PrAt B b l w' := by
  obtain ⟨hB, v, h1, ⟨h2, h3⟩, h4⟩ := h
  have lt : ∀ (g : Nat) (o : Obj), w.heap[g]? = some o → w'.heap[g]? = some o := fun g o ho => by rw [hb.block g (lt_of_obj ho)]; exact ho
  refine ⟨hB, v, lt _ _ h1, ⟨h2, ?_⟩, h4⟩
  rcases h3 with h3 | ⟨g, cap, cur, g1, g2, g3, g4⟩
  · exact .inl h3
  · exact .inr ⟨g, cap, cur, g1, g2, lt _ _ g3, g4⟩
theorem oth_past {e : TypeId} {b : Option Nat} {w w' : World} (hb : Below w.heap.size w w') : Lib.OthersKept e b w w' := by
  intro k o hk _ _
  rw [hb.block k (lt_of_obj hk)]
  exact hk
theorem pr_lt {B b : Nat} {l : List (List UInt8)} {w : World} (h : PrAt B b l w) : b < w.heap.size := by
  obtain ⟨_, v, h1, _⟩ := h
  exact lt_of_obj h1
theorem Pw.start {w0 w : World} {B b : Nat} {l : List (List UInt8)} (cs : Array Value) (hb : PrAt B b l w) (hB : B ≤ w.heap.size) (hn : Below w0.heap.size w0 w) : Pw w0 w (w.alloc (.cells cs 24)) B b w.heap.size cs l :=
  have h1 : Below w.heap.size w (w.alloc (.cells cs 24)) := (Below.refl _ _).alloc (Nat.le_refl _) _
  ⟨pr_past hb h1, h1.mono hB, oth_past h1, heap_alloc_new w _, hn.trans (h1.mono hn.size), Nat.le_trans hB h1.size⟩
theorem Pw.past {w0 w W W' : World} {B b H : Nat} {cs : Array Value} {l : List (List UInt8)} (h : Pw w0 w W B b H cs l) (hb : Below W.heap.size W W') : Pw w0 w W' B b H cs l :=
  ⟨pr_past h.pr hb, h.bel.trans (hb.mono h.sz), h.oth.trans (oth_past hb), (hb.block H (lt_of_obj h.box)).trans h.box, h.new.trans (hb.mono h.new.size), Nat.le_trans h.sz hb.size⟩
theorem Pw.said {w0 w W W' : World} {B b H : Nat} {cs : Array Value} {l l' : List (List UInt8)} (h : Pw w0 w W B b H cs l) (hH : H ≠ b) (h0 : w0.heap.size ≤ B) (hb : PrAt B b l' W') (hbel : Below B W W') (ho : Lib.OthersKept 9 (some b) W W') : Pw w0 w W' B b H cs l' :=
  ⟨hb, h.bel.trans hbel, h.oth.trans ho, ho H _ h.box (fun e => hH (Option.some.inj e)) (fun c fz e => by cases e), h.new.trans (hbel.mono h0), Nat.le_trans h.sz hbel.size⟩
theorem Pw.cell {w0 w W : World} {B b H : Nat} {cs : Array Value} {l : List (List UInt8)} (h : Pw w0 w W B b H cs l) (k : Nat) (v : Value) (hk : cs[k]? = some v) : W.cell? ⟨H, k, none⟩ = some v := by
  rw [cell_of_row _ H k cs 24 (0, 0) h.box]
  exact hk
theorem Pw.fin {w0 w W : World} {B b H : Nat} {cs : Array Value} {l l' : List (List UInt8)} (h : Pw w0 w W B b H cs l) (e : l = l') : PPost w B b l' (.returned (.tuple #[])) W := by
  subst e
  exact ⟨rfl, h.pr, h.bel, h.oth⟩

/-- Tokens that are laid in a new row and said at once. -/
theorem say_lit {w0 w W : World} {B b H : Nat} {cs : Array Value} {l : List (List UInt8)} (h : Pw w0 w W B b H cs l) (hH : H ≠ b) (h0 : w0.heap.size ≤ B) (toks : List (List UInt8)) (hl : l.length + toks.length ≤ 1000000) :
    Calls Tryz.prog 49 #[.pointer (some ⟨b, 0, none⟩), .slice (some ⟨W.heap.size, 0, none⟩) toks.length toks.length] (W.alloc (.cells (toks.map strV).toArray 9)) fun e w' => e = .returned (.tuple #[]) ∧ Hid (Pw w0 w w' B b H cs (l ++ toks)) := by
  have hb : Below W.heap.size W (W.alloc (.cells (toks.map strV).toArray 9)) := (Below.refl _ _).alloc (Nat.le_refl _) _
  have hp := h.past hb
  refine (say_any _ B b l toks W.heap.size toks.length hp.pr hp.sz hl (fun j hj => ?_)).mono ?_
  · rw [cell_of_row _ W.heap.size j _ 9 (0, 0) (heap_alloc_new W _)]
    simp [hj]
  · rintro e w' ⟨rfl, h1, h2, h3⟩
    exact ⟨rfl, hp.said hH h0 h1.out h2.out h3.out⟩
theorem say1 {w0 w W : World} {B b H : Nat} {cs : Array Value} {l : List (List UInt8)} (h : Pw w0 w W B b H cs l) (hH : H ≠ b) (h0 : w0.heap.size ≤ B) (x : List UInt8) (hl : l.length ≤ 900000) :
    Calls Tryz.prog 49 #[.pointer (some ⟨b, 0, none⟩), .slice (some ⟨W.heap.size, 0, none⟩) 1 1] (W.alloc (.cells #[.string ⟨x.toArray⟩] 9)) fun e w' => e = .returned (.tuple #[]) ∧ Hid (Pw w0 w w' B b H cs (l ++ [x])) := say_lit h hH h0 [x] (by simp; omega)
theorem say2 {w0 w W : World} {B b H : Nat} {cs : Array Value} {l : List (List UInt8)} (h : Pw w0 w W B b H cs l) (hH : H ≠ b) (h0 : w0.heap.size ≤ B) (x y : List UInt8) (hl : l.length ≤ 900000) :
    Calls Tryz.prog 49 #[.pointer (some ⟨b, 0, none⟩), .slice (some ⟨W.heap.size, 0, none⟩) 2 2] (W.alloc (.cells #[.string ⟨x.toArray⟩, .string ⟨y.toArray⟩] 9)) fun e w' => e = .returned (.tuple #[]) ∧ Hid (Pw w0 w w' B b H cs (l ++ [x, y])) := say_lit h hH h0 [x, y] (by simp; omega)
theorem say3 {w0 w W : World} {B b H : Nat} {cs : Array Value} {l : List (List UInt8)} (h : Pw w0 w W B b H cs l) (hH : H ≠ b) (h0 : w0.heap.size ≤ B) (x y z : List UInt8) (hl : l.length ≤ 900000) :
    Calls Tryz.prog 49 #[.pointer (some ⟨b, 0, none⟩), .slice (some ⟨W.heap.size, 0, none⟩) 3 3] (W.alloc (.cells #[.string ⟨x.toArray⟩, .string ⟨y.toArray⟩, .string ⟨z.toArray⟩] 9)) fun e w' => e = .returned (.tuple #[]) ∧ Hid (Pw w0 w w' B b H cs (l ++ [x, y, z])) := say_lit h hH h0 [x, y, z] (by simp; omega)
theorem say4 {w0 w W : World} {B b H : Nat} {cs : Array Value} {l : List (List UInt8)} (h : Pw w0 w W B b H cs l) (hH : H ≠ b) (h0 : w0.heap.size ≤ B) (x y z u : List UInt8) (hl : l.length ≤ 900000) :
    Calls Tryz.prog 49 #[.pointer (some ⟨b, 0, none⟩), .slice (some ⟨W.heap.size, 0, none⟩) 4 4] (W.alloc (.cells #[.string ⟨x.toArray⟩, .string ⟨y.toArray⟩, .string ⟨z.toArray⟩, .string ⟨u.toArray⟩] 9)) fun e w' => e = .returned (.tuple #[]) ∧ Hid (Pw w0 w w' B b H cs (l ++ [x, y, z, u])) := say_lit h hH h0 [x, y, z, u] (by simp; omega)

/-- A call that writes one node (with a level, or bare), said from a world on: what tokens it says. -/
def WP (w0 : World) (B b : Nat) (v : Value) (least : Int) (ts : List (List UInt8)) : Prop := ∀ (w : World) (l : List (List UInt8)), B ≤ w.heap.size → Below w0.heap.size w0 w → PrAt B b l w → l.length + ts.length ≤ 900000 →
  Calls Tryz.prog 20 #[.pointer (some ⟨b, 0, none⟩), v, .int .i64 least] w fun e w' => PPost w B b (l ++ ts) e w'
def BP (w0 : World) (B b : Nat) (v : Value) (ts : List (List UInt8)) : Prop := ∀ (w : World) (l : List (List UInt8)), B ≤ w.heap.size → Below w0.heap.size w0 w → PrAt B b l w → l.length + ts.length ≤ 900000 →
  Calls Tryz.prog 48 #[.pointer (some ⟨b, 0, none⟩), v] w fun e w' => PPost w B b (l ++ ts) e w'

/-- The program's level of a node. -/
def levP (k : Int) (x : List UInt8) : Int :=
  if k = 9 ∨ k = 7 ∨ k = 11 ∨ k = 17 ∨ k = 20 ∨ k = 10 ∨ k = 29 then 0 else if k = 28 then 1 else if k = 16 ∨ k = 27 then 2 else if k = 8 ∨ k = 19 ∨ k = 13 ∨ k = 14 then 5
  else if k = 18 then (if x = [43] ∨ x = [45] then 3 else if x = [42] then 4 else 1) else 6
set_option maxHeartbeats 1000000 in
theorem sign_any (x : List UInt8) (w : World) : Calls Tryz.prog 81 #[.string ⟨x.toArray⟩] w fun e w' => e = .returned (.int .i64 (if x = [43] ∨ x = [45] then 3 else if x = [42] then 4 else 1)) ∧ w' = w := by
  go_enter Tryz.func81, Tryz.ntmps81
  go_wp2
  all_goals go_ret
  all_goals simp_all
set_option maxRecDepth 100000 in
set_option maxHeartbeats 4000000 in
theorem levelP_any (k p m : Int) (x : List UInt8) (v : Value) (w : World) :
    Calls Tryz.prog 47 #[.agg #[.int .i64 k, .int .i64 p, .string ⟨x.toArray⟩, .int .i64 m, v]] w fun e w' => e = .returned (.int .i64 (levP k x)) ∧ Hid (Below w.heap.size w w') := by
  by_cases h18 : k = 18
  · subst h18
    have e : levP 18 x = if x = [43] ∨ x = [45] then 3 else if x = [42] then 4 else 1 := by simp [levP]
    rw [e]
    have HS := hid (fun (w : World) => sign_any x w)
    generalize (if x = [43] ∨ x = [45] then (3 : Int) else if x = [42] then 4 else 1) = r at HS ⊢
    clear e
    go_enter Tryz.func47, Tryz.ntmps47
    go_wp2_with fail
    refine (HS.out _).mono ?_
    rintro e w' ⟨rfl, rfl⟩
    go_wp2_with fail
    go_ret
    exact ⟨rfl, (Below.refl _ _).alloc (Nat.le_refl _) _⟩
  · unfold levP
    go_enter Tryz.func47, Tryz.ntmps47
    go_wp2
    all_goals go_ret
    all_goals refine ⟨ret_int ?_, (Below.refl _ _).alloc (Nat.le_refl _) _⟩
    all_goals simp_all

set_option maxRecDepth 100000 in
set_option maxHeartbeats 4000000 in
theorem writeP_any (w0 : World) (B b : Nat) (k p m least : Int) (x : List UInt8) (va : Option Addr) (vl vc : Nat) (ts : List (List UInt8)) (hB0 : w0.heap.size ≤ B)
    (h : BP w0 B b (.agg #[.int .i64 k, .int .i64 p, .string ⟨x.toArray⟩, .int .i64 m, .slice va vl vc]) ts) :
    WP w0 B b (.agg #[.int .i64 k, .int .i64 p, .string ⟨x.toArray⟩, .int .i64 m, .slice va vl vc]) least (if least ≤ levP k x then ts else [40] :: ts ++ [[41]]) := by
  intro w l hB hn hp hl
  have hbH : w.heap.size ≠ b := by have := pr_lt hp; omega
  have HBP := hid h
  have HL := hid (fun (w : World) => levelP_any k p m x (.slice va vl vc) w)
  have HW0 := hid (Pw.start (w0 := w0) (w := w) #[.int .i64 k, .int .i64 p, .string ⟨x.toArray⟩, .int .i64 m, .slice va vl vc] hp hB hn)
  clear h hp hn
  generalize levP k x = lv at HL hl ⊢
  by_cases hlt : least ≤ lv
  · rw [if_pos hlt] at hl ⊢
    go_enter Tryz.func20, Tryz.ntmps20
    go_wp2_with fail
    refine (HL.out _).mono ?_
    rintro e w1 ⟨rfl, HB1⟩
    have HW1 := hid (HW0.out.past HB1.out)
    have b0 := HW1.out.cell 0 _ rfl
    have b1 := HW1.out.cell 1 _ rfl
    have b2 := HW1.out.cell 2 _ rfl
    have b3 := HW1.out.cell 3 _ rfl
    have b4 := HW1.out.cell 4 _ rfl
    go_wp2_with fail
    refine (HBP.out _ l HW1.out.sz HW1.out.new HW1.out.pr hl).mono ?_
    rintro e w2 ⟨rfl, H1, H2, H3⟩
    have HW2 := hid (HW1.out.said hbH hB0 H1.out H2.out H3.out)
    go_wp2_with fail
    go_end0
    exact HW2.out.fin rfl
  · rw [if_neg hlt] at hl ⊢
    have hl2 : l.length + ts.length + 2 ≤ 900000 := by simp at hl; omega
    clear hl
    go_enter Tryz.func20, Tryz.ntmps20
    go_wp2_with fail
    refine (HL.out _).mono ?_
    rintro e w1 ⟨rfl, HB1⟩
    have HW1 := hid (HW0.out.past HB1.out)
    go_wp2_with fail
    refine (say1 HW1.out hbH hB0 [40] (by omega)).mono ?_
    rintro e w2 ⟨rfl, HW2⟩
    have b0 := HW2.out.cell 0 _ rfl
    have b1 := HW2.out.cell 1 _ rfl
    have b2 := HW2.out.cell 2 _ rfl
    have b3 := HW2.out.cell 3 _ rfl
    have b4 := HW2.out.cell 4 _ rfl
    go_wp2_with fail
    refine (HBP.out _ _ HW2.out.sz HW2.out.new HW2.out.pr (by simp; omega)).mono ?_
    rintro e w3 ⟨rfl, H1, H2, H3⟩
    have HW3 := hid (HW2.out.said hbH hB0 H1.out H2.out H3.out)
    go_wp2_with fail
    refine (say1 HW3.out hbH hB0 [41] (by simp; omega)).mono ?_
    rintro e w4 ⟨rfl, HW4⟩
    go_wp2_with fail
    go_end0
    exact HW4.out.fin (by simp)
end Go.Proofs.YtddnnlldkdljoaaGreatDoor

namespace Go.Proofs.YtddnnlldkdljoaaGreatDoor
open Go.RowKit

set_option maxRecDepth 100000 in
set_option maxHeartbeats 4000000 in
theorem behind_any (w0 : World) (B b : Nat) (tok : List UInt8) {k p m : Int} {n : ByteArray} {u : Value} (ts : List (List UInt8)) (hB0 : w0.heap.size ≤ B) (h : WP w0 B b (.agg #[.int .i64 k, .int .i64 p, .string n, .int .i64 m, u]) 0 ts) :
    ∀ (w : World) (l : List (List UInt8)), B ≤ w.heap.size → Below w0.heap.size w0 w → PrAt B b l w → l.length + (tok :: ts).length ≤ 900000 →
    Calls Tryz.prog 85 #[.pointer (some ⟨b, 0, none⟩), .string ⟨tok.toArray⟩, .agg #[.int .i64 k, .int .i64 p, .string n, .int .i64 m, u]] w fun e w' => PPost w B b (l ++ tok :: ts) e w' := by
  intro w l hB hn hp hl
  have hbH : w.heap.size ≠ b := by have := pr_lt hp; omega
  have H0 := hid h
  obtain ⟨W0, hW0⟩ : ∃ W, W = w.alloc (.cells #[.int .i64 k, .int .i64 p, .string n, .int .i64 m, u] 24) := ⟨_, rfl⟩
  have HW0 : Hid (Pw w0 w W0 B b w.heap.size #[.int .i64 k, .int .i64 p, .string n, .int .i64 m, u] l) := by rw [hW0]; exact Pw.start _ hp hB hn
  have hl2 : l.length + (ts.length + 1) ≤ 900000 := by simpa using hl
  clear h hp hn hl
  go_enter Tryz.func85, Tryz.ntmps85
  go_upto_region 1 with fail
  rw [← hW0]
  clear hW0
  go_wp2_with fail
  refine (say1 HW0.out hbH hB0 tok (by omega)).mono ?_
  rintro e w1 ⟨rfl, HW1⟩
  have a0 := HW1.out.cell 0 _ rfl
  have a1 := HW1.out.cell 1 _ rfl
  have a2 := HW1.out.cell 2 _ rfl
  have a3 := HW1.out.cell 3 _ rfl
  have a4 := HW1.out.cell 4 _ rfl
  go_wp2_with fail
  refine (H0.out _ _ HW1.out.sz HW1.out.new HW1.out.pr (by simp; omega)).mono ?_
  rintro e w2 ⟨rfl, P1, P2, P3⟩
  have HW2 := hid (HW1.out.said hbH hB0 P1.out P2.out P3.out)
  go_wp2_with fail
  go_end0
  exact HW2.out.fin (by simp)
set_option maxRecDepth 100000 in
set_option maxHeartbeats 8000000 in
theorem pk_fn (w0 : World) (B b : Nat) (p m : Int) (x : List UInt8) (g o c : Nat) (k0 p0 : Int) (n0 : ByteArray) (m0 : Int) (v0 : Value) (t0 : List (List UInt8)) (hB0 : w0.heap.size ≤ B) (hg : g < w0.heap.size) (_hc : 1 ≤ c) (E0 : Nod w0 g (o) k0 p0 n0 m0 v0) (h0 : WP w0 B b (Value.agg #[.int .i64 k0, .int .i64 p0, .string n0, .int .i64 m0, v0]) 0 t0) :
    ∀ (w : World) (l : List (List UInt8)), B ≤ w.heap.size → Below w0.heap.size w0 w → PrAt B b l w → l.length + ([[102, 110], x] ++ ([61, 62] :: t0)).length ≤ 900000 →
    Calls Tryz.prog 48 #[.pointer (some ⟨b, 0, none⟩), .agg #[.int .i64 7, .int .i64 p, .string ⟨x.toArray⟩, .int .i64 m, .slice (some ⟨g, o, none⟩) 1 c]] w fun e w' => PPost w B b (l ++ ([[102, 110], x] ++ ([61, 62] :: t0))) e w' := by
  intro w l hB hn hp hl
  have hbH : w.heap.size ≠ b := by have := pr_lt hp; omega
  have H0 := hid h0
  have F0 := hid E0
  have hl2 := hl
  simp only [List.length_append, List.length_cons, List.length_nil] at hl2
  clear hl
  obtain ⟨W0, hW0⟩ : ∃ W, W = w.alloc (.cells #[.int .i64 7, .int .i64 p, .string ⟨x.toArray⟩, .int .i64 m, .slice (some ⟨g, o, none⟩) 1 c] 24) := ⟨_, rfl⟩
  have HW0 : Hid (Pw w0 w W0 B b w.heap.size #[.int .i64 7, .int .i64 p, .string ⟨x.toArray⟩, .int .i64 m, .slice (some ⟨g, o, none⟩) 1 c] l) := by rw [hW0]; exact Pw.start _ hp hB hn
  clear h0 E0 hp hn
  go_enter Tryz.func48, Tryz.ntmps48
  go_upto_region 1 with fail
  rw [← hW0]
  clear hW0
  have a0_0 := HW0.out.cell 0 _ rfl
  have a1_0 := HW0.out.cell 1 _ rfl
  have a2_0 := HW0.out.cell 2 _ rfl
  have a3_0 := HW0.out.cell 3 _ rfl
  have a4_0 := HW0.out.cell 4 _ rfl
  obtain ⟨f00_0, f01_0, f02_0, f03_0, f04_0⟩ := Nod.past F0.out hg HW0.out.new
  go_wp2_with fail
  refine (say2 HW0.out hbH hB0 ([102, 110]) (x) (by first | omega | (simp only [List.length_append, List.length_cons, List.length_nil]; omega))).mono ?_
  rintro e w1 ⟨rfl, HW1⟩
  clear a0_0 a1_0 a2_0 a3_0 a4_0 f00_0 f01_0 f02_0 f03_0 f04_0
  have a0_1 := HW1.out.cell 0 _ rfl
  have a1_1 := HW1.out.cell 1 _ rfl
  have a2_1 := HW1.out.cell 2 _ rfl
  have a3_1 := HW1.out.cell 3 _ rfl
  have a4_1 := HW1.out.cell 4 _ rfl
  obtain ⟨f00_1, f01_1, f02_1, f03_1, f04_1⟩ := Nod.past F0.out hg HW1.out.new
  go_wp2_with fail
  refine (behind_any w0 B b [61, 62] t0 hB0 H0.out _ _ HW1.out.sz HW1.out.new HW1.out.pr (by first | omega | (simp only [List.length_append, List.length_cons, List.length_nil]; omega))).mono ?_
  rintro e w2 ⟨rfl, P1, P2, P3⟩
  have HW2 := hid (HW1.out.said hbH hB0 P1.out P2.out P3.out)
  clear P1 P2 P3
  clear a0_1 a1_1 a2_1 a3_1 a4_1 f00_1 f01_1 f02_1 f03_1 f04_1
  go_wp2_with fail
  go_end0
  exact HW2.out.fin (by simp)

set_option maxRecDepth 100000 in
set_option maxHeartbeats 8000000 in
theorem pk_if (w0 : World) (B b : Nat) (p m : Int) (x : List UInt8) (g o c : Nat) (k0 p0 : Int) (n0 : ByteArray) (m0 : Int) (v0 : Value) (k1 p1 : Int) (n1 : ByteArray) (m1 : Int) (v1 : Value) (k2 p2 : Int) (n2 : ByteArray) (m2 : Int) (v2 : Value) (t0 : List (List UInt8)) (t1 : List (List UInt8)) (t2 : List (List UInt8)) (hB0 : w0.heap.size ≤ B) (hg : g < w0.heap.size) (_hc : 3 ≤ c) (E0 : Nod w0 g (o) k0 p0 n0 m0 v0) (E1 : Nod w0 g (o + 5) k1 p1 n1 m1 v1) (E2 : Nod w0 g (o + 10) k2 p2 n2 m2 v2) (h0 : WP w0 B b (Value.agg #[.int .i64 k0, .int .i64 p0, .string n0, .int .i64 m0, v0]) 0 t0) (h1 : WP w0 B b (Value.agg #[.int .i64 k1, .int .i64 p1, .string n1, .int .i64 m1, v1]) 0 t1) (h2 : WP w0 B b (Value.agg #[.int .i64 k2, .int .i64 p2, .string n2, .int .i64 m2, v2]) 0 t2) :
    ∀ (w : World) (l : List (List UInt8)), B ≤ w.heap.size → Below w0.heap.size w0 w → PrAt B b l w → l.length + (([105, 102] :: t0) ++ ([116, 104, 101, 110] :: t1) ++ ([101, 108, 115, 101] :: t2)).length ≤ 900000 →
    Calls Tryz.prog 48 #[.pointer (some ⟨b, 0, none⟩), .agg #[.int .i64 11, .int .i64 p, .string ⟨x.toArray⟩, .int .i64 m, .slice (some ⟨g, o, none⟩) 3 c]] w fun e w' => PPost w B b (l ++ (([105, 102] :: t0) ++ ([116, 104, 101, 110] :: t1) ++ ([101, 108, 115, 101] :: t2))) e w' := by
  intro w l hB hn hp hl
  have hbH : w.heap.size ≠ b := by have := pr_lt hp; omega
  have H0 := hid h0
  have H1 := hid h1
  have H2 := hid h2
  have F0 := hid E0
  have F1 := hid E1
  have F2 := hid E2
  have hl2 := hl
  simp only [List.length_append, List.length_cons] at hl2
  clear hl
  obtain ⟨W0, hW0⟩ : ∃ W, W = w.alloc (.cells #[.int .i64 11, .int .i64 p, .string ⟨x.toArray⟩, .int .i64 m, .slice (some ⟨g, o, none⟩) 3 c] 24) := ⟨_, rfl⟩
  have HW0 : Hid (Pw w0 w W0 B b w.heap.size #[.int .i64 11, .int .i64 p, .string ⟨x.toArray⟩, .int .i64 m, .slice (some ⟨g, o, none⟩) 3 c] l) := by rw [hW0]; exact Pw.start _ hp hB hn
  clear h0 h1 h2 E0 E1 E2 hp hn
  go_enter Tryz.func48, Tryz.ntmps48
  go_upto_region 1 with fail
  rw [← hW0]
  clear hW0
  have a0_0 := HW0.out.cell 0 _ rfl
  have a1_0 := HW0.out.cell 1 _ rfl
  have a2_0 := HW0.out.cell 2 _ rfl
  have a3_0 := HW0.out.cell 3 _ rfl
  have a4_0 := HW0.out.cell 4 _ rfl
  obtain ⟨f00_0, f01_0, f02_0, f03_0, f04_0⟩ := Nod.past F0.out hg HW0.out.new
  obtain ⟨f10_0, f11_0, f12_0, f13_0, f14_0⟩ := Nod.past F1.out hg HW0.out.new
  obtain ⟨f20_0, f21_0, f22_0, f23_0, f24_0⟩ := Nod.past F2.out hg HW0.out.new
  go_wp2_with fail
  refine (behind_any w0 B b [105, 102] t0 hB0 H0.out _ _ HW0.out.sz HW0.out.new HW0.out.pr (by first | omega | (simp only [List.length_cons]; omega))).mono ?_
  rintro e w1 ⟨rfl, P1, P2, P3⟩
  have HW1 := hid (HW0.out.said hbH hB0 P1.out P2.out P3.out)
  clear P1 P2 P3
  clear a0_0 a1_0 a2_0 a3_0 a4_0 f00_0 f01_0 f02_0 f03_0 f04_0 f10_0 f11_0 f12_0 f13_0 f14_0 f20_0 f21_0 f22_0 f23_0 f24_0
  have a0_1 := HW1.out.cell 0 _ rfl
  have a1_1 := HW1.out.cell 1 _ rfl
  have a2_1 := HW1.out.cell 2 _ rfl
  have a3_1 := HW1.out.cell 3 _ rfl
  have a4_1 := HW1.out.cell 4 _ rfl
  obtain ⟨f00_1, f01_1, f02_1, f03_1, f04_1⟩ := Nod.past F0.out hg HW1.out.new
  obtain ⟨f10_1, f11_1, f12_1, f13_1, f14_1⟩ := Nod.past F1.out hg HW1.out.new
  obtain ⟨f20_1, f21_1, f22_1, f23_1, f24_1⟩ := Nod.past F2.out hg HW1.out.new
  go_wp2_with fail
  refine (behind_any w0 B b [116, 104, 101, 110] t1 hB0 H1.out _ _ HW1.out.sz HW1.out.new HW1.out.pr (by first | omega | (simp only [List.length_append, List.length_cons]; omega))).mono ?_
  rintro e w2 ⟨rfl, P1, P2, P3⟩
  have HW2 := hid (HW1.out.said hbH hB0 P1.out P2.out P3.out)
  clear P1 P2 P3
  clear a0_1 a1_1 a2_1 a3_1 a4_1 f00_1 f01_1 f02_1 f03_1 f04_1 f10_1 f11_1 f12_1 f13_1 f14_1 f20_1 f21_1 f22_1 f23_1 f24_1
  have a0_2 := HW2.out.cell 0 _ rfl
  have a1_2 := HW2.out.cell 1 _ rfl
  have a2_2 := HW2.out.cell 2 _ rfl
  have a3_2 := HW2.out.cell 3 _ rfl
  have a4_2 := HW2.out.cell 4 _ rfl
  obtain ⟨f00_2, f01_2, f02_2, f03_2, f04_2⟩ := Nod.past F0.out hg HW2.out.new
  obtain ⟨f10_2, f11_2, f12_2, f13_2, f14_2⟩ := Nod.past F1.out hg HW2.out.new
  obtain ⟨f20_2, f21_2, f22_2, f23_2, f24_2⟩ := Nod.past F2.out hg HW2.out.new
  go_wp2_with fail
  refine (behind_any w0 B b [101, 108, 115, 101] t2 hB0 H2.out _ _ HW2.out.sz HW2.out.new HW2.out.pr (by first | omega | (simp only [List.length_append, List.length_cons]; omega))).mono ?_
  rintro e w3 ⟨rfl, P1, P2, P3⟩
  have HW3 := hid (HW2.out.said hbH hB0 P1.out P2.out P3.out)
  clear P1 P2 P3
  clear a0_2 a1_2 a2_2 a3_2 a4_2 f00_2 f01_2 f02_2 f03_2 f04_2 f10_2 f11_2 f12_2 f13_2 f14_2 f20_2 f21_2 f22_2 f23_2 f24_2
  go_wp2_with fail
  go_end0
  exact HW3.out.fin (by simp)

set_option maxRecDepth 100000 in
set_option maxHeartbeats 8000000 in
theorem pk_pair (w0 : World) (B b : Nat) (p m : Int) (x : List UInt8) (g o c : Nat) (k0 p0 : Int) (n0 : ByteArray) (m0 : Int) (v0 : Value) (k1 p1 : Int) (n1 : ByteArray) (m1 : Int) (v1 : Value) (t0 : List (List UInt8)) (t1 : List (List UInt8)) (hB0 : w0.heap.size ≤ B) (hg : g < w0.heap.size) (_hc : 2 ≤ c) (E0 : Nod w0 g (o) k0 p0 n0 m0 v0) (E1 : Nod w0 g (o + 5) k1 p1 n1 m1 v1) (h0 : WP w0 B b (Value.agg #[.int .i64 k0, .int .i64 p0, .string n0, .int .i64 m0, v0]) 0 t0) (h1 : WP w0 B b (Value.agg #[.int .i64 k1, .int .i64 p1, .string n1, .int .i64 m1, v1]) 0 t1) :
    ∀ (w : World) (l : List (List UInt8)), B ≤ w.heap.size → Below w0.heap.size w0 w → PrAt B b l w → l.length + (([40] :: t0) ++ ([44] :: t1) ++ [[41]]).length ≤ 900000 →
    Calls Tryz.prog 48 #[.pointer (some ⟨b, 0, none⟩), .agg #[.int .i64 12, .int .i64 p, .string ⟨x.toArray⟩, .int .i64 m, .slice (some ⟨g, o, none⟩) 2 c]] w fun e w' => PPost w B b (l ++ (([40] :: t0) ++ ([44] :: t1) ++ [[41]])) e w' := by
  intro w l hB hn hp hl
  have hbH : w.heap.size ≠ b := by have := pr_lt hp; omega
  have H0 := hid h0
  have H1 := hid h1
  have F0 := hid E0
  have F1 := hid E1
  have hl2 := hl
  simp only [List.length_append, List.length_cons, List.length_nil] at hl2
  clear hl
  obtain ⟨W0, hW0⟩ : ∃ W, W = w.alloc (.cells #[.int .i64 12, .int .i64 p, .string ⟨x.toArray⟩, .int .i64 m, .slice (some ⟨g, o, none⟩) 2 c] 24) := ⟨_, rfl⟩
  have HW0 : Hid (Pw w0 w W0 B b w.heap.size #[.int .i64 12, .int .i64 p, .string ⟨x.toArray⟩, .int .i64 m, .slice (some ⟨g, o, none⟩) 2 c] l) := by rw [hW0]; exact Pw.start _ hp hB hn
  clear h0 h1 E0 E1 hp hn
  go_enter Tryz.func48, Tryz.ntmps48
  go_upto_region 1 with fail
  rw [← hW0]
  clear hW0
  have a0_0 := HW0.out.cell 0 _ rfl
  have a1_0 := HW0.out.cell 1 _ rfl
  have a2_0 := HW0.out.cell 2 _ rfl
  have a3_0 := HW0.out.cell 3 _ rfl
  have a4_0 := HW0.out.cell 4 _ rfl
  obtain ⟨f00_0, f01_0, f02_0, f03_0, f04_0⟩ := Nod.past F0.out hg HW0.out.new
  obtain ⟨f10_0, f11_0, f12_0, f13_0, f14_0⟩ := Nod.past F1.out hg HW0.out.new
  go_wp2_with fail
  refine (behind_any w0 B b [40] t0 hB0 H0.out _ _ HW0.out.sz HW0.out.new HW0.out.pr (by first | omega | (simp only [List.length_cons]; omega))).mono ?_
  rintro e w1 ⟨rfl, P1, P2, P3⟩
  have HW1 := hid (HW0.out.said hbH hB0 P1.out P2.out P3.out)
  clear P1 P2 P3
  clear a0_0 a1_0 a2_0 a3_0 a4_0 f00_0 f01_0 f02_0 f03_0 f04_0 f10_0 f11_0 f12_0 f13_0 f14_0
  have a0_1 := HW1.out.cell 0 _ rfl
  have a1_1 := HW1.out.cell 1 _ rfl
  have a2_1 := HW1.out.cell 2 _ rfl
  have a3_1 := HW1.out.cell 3 _ rfl
  have a4_1 := HW1.out.cell 4 _ rfl
  obtain ⟨f00_1, f01_1, f02_1, f03_1, f04_1⟩ := Nod.past F0.out hg HW1.out.new
  obtain ⟨f10_1, f11_1, f12_1, f13_1, f14_1⟩ := Nod.past F1.out hg HW1.out.new
  go_wp2_with fail
  refine (behind_any w0 B b [44] t1 hB0 H1.out _ _ HW1.out.sz HW1.out.new HW1.out.pr (by first | omega | (simp only [List.length_append, List.length_cons]; omega))).mono ?_
  rintro e w2 ⟨rfl, P1, P2, P3⟩
  have HW2 := hid (HW1.out.said hbH hB0 P1.out P2.out P3.out)
  clear P1 P2 P3
  clear a0_1 a1_1 a2_1 a3_1 a4_1 f00_1 f01_1 f02_1 f03_1 f04_1 f10_1 f11_1 f12_1 f13_1 f14_1
  have a0_2 := HW2.out.cell 0 _ rfl
  have a1_2 := HW2.out.cell 1 _ rfl
  have a2_2 := HW2.out.cell 2 _ rfl
  have a3_2 := HW2.out.cell 3 _ rfl
  have a4_2 := HW2.out.cell 4 _ rfl
  obtain ⟨f00_2, f01_2, f02_2, f03_2, f04_2⟩ := Nod.past F0.out hg HW2.out.new
  obtain ⟨f10_2, f11_2, f12_2, f13_2, f14_2⟩ := Nod.past F1.out hg HW2.out.new
  go_wp2_with fail
  refine (say1 HW2.out hbH hB0 ([41]) (by first | omega | (simp only [List.length_append, List.length_cons]; omega))).mono ?_
  rintro e w3 ⟨rfl, HW3⟩
  clear a0_2 a1_2 a2_2 a3_2 a4_2 f00_2 f01_2 f02_2 f03_2 f04_2 f10_2 f11_2 f12_2 f13_2 f14_2
  go_wp2_with fail
  go_end0
  exact HW3.out.fin (by simp)

set_option maxRecDepth 100000 in
set_option maxHeartbeats 8000000 in
theorem pk_return (w0 : World) (B b : Nat) (p m : Int) (x : List UInt8) (g o c : Nat) (k0 p0 : Int) (n0 : ByteArray) (m0 : Int) (v0 : Value) (t0 : List (List UInt8)) (hB0 : w0.heap.size ≤ B) (hg : g < w0.heap.size) (_hc : 1 ≤ c) (E0 : Nod w0 g (o) k0 p0 n0 m0 v0) (h0 : WP w0 B b (Value.agg #[.int .i64 k0, .int .i64 p0, .string n0, .int .i64 m0, v0]) 0 t0) :
    ∀ (w : World) (l : List (List UInt8)), B ≤ w.heap.size → Below w0.heap.size w0 w → PrAt B b l w → l.length + ([[114, 101, 116, 117, 114, 110], x] ++ ([61, 62] :: t0)).length ≤ 900000 →
    Calls Tryz.prog 48 #[.pointer (some ⟨b, 0, none⟩), .agg #[.int .i64 21, .int .i64 p, .string ⟨x.toArray⟩, .int .i64 m, .slice (some ⟨g, o, none⟩) 1 c]] w fun e w' => PPost w B b (l ++ ([[114, 101, 116, 117, 114, 110], x] ++ ([61, 62] :: t0))) e w' := by
  intro w l hB hn hp hl
  have hbH : w.heap.size ≠ b := by have := pr_lt hp; omega
  have H0 := hid h0
  have F0 := hid E0
  have hl2 := hl
  simp only [List.length_append, List.length_cons, List.length_nil] at hl2
  clear hl
  obtain ⟨W0, hW0⟩ : ∃ W, W = w.alloc (.cells #[.int .i64 21, .int .i64 p, .string ⟨x.toArray⟩, .int .i64 m, .slice (some ⟨g, o, none⟩) 1 c] 24) := ⟨_, rfl⟩
  have HW0 : Hid (Pw w0 w W0 B b w.heap.size #[.int .i64 21, .int .i64 p, .string ⟨x.toArray⟩, .int .i64 m, .slice (some ⟨g, o, none⟩) 1 c] l) := by rw [hW0]; exact Pw.start _ hp hB hn
  clear h0 E0 hp hn
  go_enter Tryz.func48, Tryz.ntmps48
  go_upto_region 1 with fail
  rw [← hW0]
  clear hW0
  have a0_0 := HW0.out.cell 0 _ rfl
  have a1_0 := HW0.out.cell 1 _ rfl
  have a2_0 := HW0.out.cell 2 _ rfl
  have a3_0 := HW0.out.cell 3 _ rfl
  have a4_0 := HW0.out.cell 4 _ rfl
  obtain ⟨f00_0, f01_0, f02_0, f03_0, f04_0⟩ := Nod.past F0.out hg HW0.out.new
  go_wp2_with fail
  refine (say2 HW0.out hbH hB0 ([114, 101, 116, 117, 114, 110]) (x) (by first | omega | (simp only [List.length_append, List.length_cons, List.length_nil]; omega))).mono ?_
  rintro e w1 ⟨rfl, HW1⟩
  clear a0_0 a1_0 a2_0 a3_0 a4_0 f00_0 f01_0 f02_0 f03_0 f04_0
  have a0_1 := HW1.out.cell 0 _ rfl
  have a1_1 := HW1.out.cell 1 _ rfl
  have a2_1 := HW1.out.cell 2 _ rfl
  have a3_1 := HW1.out.cell 3 _ rfl
  have a4_1 := HW1.out.cell 4 _ rfl
  obtain ⟨f00_1, f01_1, f02_1, f03_1, f04_1⟩ := Nod.past F0.out hg HW1.out.new
  go_wp2_with fail
  refine (behind_any w0 B b [61, 62] t0 hB0 H0.out _ _ HW1.out.sz HW1.out.new HW1.out.pr (by first | omega | (simp only [List.length_append, List.length_cons, List.length_nil]; omega))).mono ?_
  rintro e w2 ⟨rfl, P1, P2, P3⟩
  have HW2 := hid (HW1.out.said hbH hB0 P1.out P2.out P3.out)
  clear P1 P2 P3
  clear a0_1 a1_1 a2_1 a3_1 a4_1 f00_1 f01_1 f02_1 f03_1 f04_1
  go_wp2_with fail
  go_end0
  exact HW2.out.fin (by simp)
end Go.Proofs.YtddnnlldkdljoaaGreatDoor
