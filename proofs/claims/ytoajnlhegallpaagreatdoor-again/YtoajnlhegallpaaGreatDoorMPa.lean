/-
  Strings made of pieces; what a later world keeps; a slice of nodes in memory.
  The program's printer in memory: the tokens that were said; say.
  A printer that is written into, and what stands beside it; say of one to four tokens that are laid at once.
-/
import Derived.Test.YtoajnlhegallpaaGreatDoorMBa
import Derived.WalkSpells
import Derived.WalkLawsBesides
import Derived.Deep.QuietTactic
import Derived.BigQuiet
import Derived.Deep.LoopGhost
import Derived.Deep.RegionHeld3
import Derived.Deep.RegionWith
import Derived.Deep.Cut
import Derived.Laws.IdiomStrings
import Derived.Lib.Walk
import Derived.OwnWalk
import Derived.Laws.AppendOwn
import Derived.Lib.OthersKept
import Derived.ProofKit
import Derived.OneCell
set_option linter.unusedVariables false
set_option linter.unusedSimpArgs false
set_option maxRecDepth 100000
set_option maxHeartbeats 4000000
namespace Go.Proofs.YtoajnlhegallpaaGreatDoor
open Go.RowKit

theorem below_dn {B : Nat} {a w : World} (h : Below B a w) (q : Nat) : Below B a (w.drewN q) := ⟨h.os, h.tape, h.output, h.size, h.block⟩
def StrRes (w : World) (x : List UInt8) (en : Ending) (w' : World) : Prop := en = .returned (.string ⟨x.toArray⟩) ∧ Hid (Below w.heap.size w w')
theorem past_cells {W V w1 : World} (hb : Below V.heap.size V w1) {b off : Nat} {v : Value} (hl : b < W.heap.size) (h : W.cell? ⟨b, off, none⟩ = some v) (hV : V.heap = W.heap := by rfl) : w1.cell? ⟨b, off, none⟩ = some v := by
 rw [hb.cell (p := ⟨b, off, none⟩) (by rw [hV]; exact hl)]
 rw [← h]
 exact World.cell?_of_block (w := W) (w' := V) (a := ⟨b, off, none⟩) (by rw [hV])

def Nod (w : World) (g o : Nat) (k p : Int) (x : ByteArray) (n : Int) (v : Value) : Prop :=
 w.cell? ⟨g, o, none⟩ = some (.int .i64 k) ∧ w.cell? ⟨g, o + 1, none⟩ = some (.int .i64 p) ∧ w.cell? ⟨g, o + 2, none⟩ = some (.string x) ∧
 w.cell? ⟨g, o + 3, none⟩ = some (.int .i64 n) ∧ w.cell? ⟨g, o + 4, none⟩ = some v
theorem Nod.past {w w' : World} {g o : Nat} {k p : Int} {x : ByteArray} {n : Int} {v : Value} (h : Nod w g o k p x n v) (hg : g < w.heap.size) (hb : Below w.heap.size w w') : Nod w' g o k p x n v :=
 ⟨past_cells hb hg h.1, past_cells hb hg h.2.1, past_cells hb hg h.2.2.1, past_cells hb hg h.2.2.2.1, past_cells hb hg h.2.2.2.2⟩

open Go.RowKit

theorem info9 : (Tryz.prog.info? 9).map (fun i => (i.zero, i.size, i.bytes)) = some (some (.string ⟨#[]⟩), 1, 16) := by kernel_rfl
def strV (x : List UInt8) : Value := .string ⟨x.toArray⟩
def PrAt (B b : Nat) (l : List (List UInt8)) (w : World) : Prop := B ≤ b ∧ ∃ v, w.heap[b]? = some (.cells #[v] 48 (0, 0)) ∧ w.ownsRow B 9 1 v l.length (l.map strV) ∧ v.ownBlock ≠ some b

theorem lt_of_obj {w : World} {b : Nat} {o : Obj} (h : w.heap[b]? = some o) : b < w.heap.size := by
 rcases Nat.lt_or_ge b w.heap.size with h1 | h1
 ·exact h1
 ·rw [Array.getElem?_eq_none h1] at h; cases h

theorem say_any (W : World) (B b : Nat) (l toks : List (List UInt8)) (g c : Nat) (h : PrAt B b l W) (hB : B ≤ W.heap.size) (hl : l.length + toks.length ≤ 1000000) (hsrc : ∀ j (h : j < toks.length), W.cell? ⟨g, j, none⟩ = some (strV toks[j])) :
  Calls Tryz.prog 49 #[.pointer (some ⟨b, 0, none⟩), .slice (some ⟨g, 0, none⟩) toks.length c] W fun e w' => e = .returned (.tuple #[]) ∧ Hid (PrAt B b (l ++ toks) w') ∧ Hid (Below B W w') ∧ Hid (Lib.OthersKept 9 (some b) W w') := by
 obtain ⟨hBb, v, hv, hown, hne⟩ := h
 obtain ⟨i0, hi, hz0, hz1, hz2⟩ := info_parts info9
 have hblt := lt_of_obj hv
 have c0 : W.cell? ⟨b, 0, none⟩ = some v := by simp [World.cell?, hv]
 have f0 : W.frozen? ⟨b, 0, none⟩ = false := by simp [World.frozen?, hv]
 have hfit := hown
 have hsv : ∃ a k m, v = .slice a k m := by
  rcases hown.2 with ⟨h1, _⟩ | ⟨g, cap, cur, h1, _⟩
  ·exact ⟨_, _, _, h1⟩
  ·exact ⟨_, _, _, h1⟩
 have HO := hid hown
 have HS := hid hsrc
 obtain ⟨sa, sk, sm, hsv⟩ := hsv
 subst hsv
 clear hown hfit hsrc
 go_enter Tryz.func49, Tryz.ntmps49
 go_wp2_with (at_builtin; refine wpList_append_own _ rfl (.tmp 8) (.tmp 9) 46 rfl B 9 i0 (.string ⟨#[]⟩) 1 16 Tryz.underlying46 hi hz0 hz1 hz2 rfl (by decide) (.slice sa sk sm) l.length (l.map strV) rfl HO.out ⟨g, 0, none⟩ toks.length c (toks.map strV) rfl (by simp) ?c1 ?c2 (by unfold maxLen; omega) (by omega) hB ?grow)
 case c1 =>
  intro j u hu
  have hj : j < toks.length := by have := (List.getElem?_eq_some_iff.1 hu).1; simpa using this
  have := HS.out j hj
  rw [List.getElem?_map, List.getElem?_eq_getElem hj] at hu
  simp only [Option.map_some, Option.some.injEq] at hu
  rw [← hu, ← this]
  unfold Addr.add
  split <;> simp_all
 case c2 =>
  intro u hu
  simp only [List.mem_map] at hu
  obtain ⟨x, _, rfl⟩ := hu
  rfl
 case grow =>
  intro v' w' h1 h2 h3
  have hbw : w'.heap[b]? = some (.cells #[.slice sa sk sm] 48 (0, 0)) := (h2.block b hblt (fun e => hne e.symm)).trans hv
  have c1 : w'.cell? ⟨b, 0, none⟩ = some (.slice sa sk sm) := by simp [World.cell?, hbw]
  have f1 : w'.frozen? ⟨b, 0, none⟩ = false := by simp [World.frozen?, hbw]
  have hsl : ∃ a k m, v' = .slice a k m := by
   rcases h1.2 with ⟨e1, _⟩ | ⟨g, cap, cur, e1, _⟩
   ·exact ⟨_, _, _, e1⟩
   ·exact ⟨_, _, _, e1⟩
  obtain ⟨a2, k2, m2, rfl⟩ := hsl
  have H1 := hid h1
  have H2 := hid h2
  have HBW := hid hbw
  clear h1 h2 h3 hbw
  go_wp2_with fail
  go_end0
  have hlen : (l ++ toks).length = l.length + toks.length := List.length_append
  have hne2 : ∀ g' cur, w'.heap[g']? = some (.cells cur 9 (0, 0)) → g' ≠ b := by
   rintro g' cur hg' rfl
   rw [HBW.out] at hg'
   simp at hg'
  refine ⟨rfl, ⟨hBb, .slice a2 k2 m2, one_setCell HBW.out, ?_, ?_⟩, ?_, ?_⟩
  ·rw [hlen, List.map_append]
   obtain ⟨q1, q2⟩ := H1.out
   refine ⟨q1, ?_⟩
   rcases q2 with q2 | ⟨g', cap, cur, r1, r2, r3, r4⟩
   ·exact .inl q2
   ·exact .inr ⟨g', cap, cur, r1, r2, (Below.heap_setCell _ _ _ _ (hne2 g' cur r3)).trans r3, r4⟩
  ·rcases H1.out.2 with ⟨q2, _⟩ | ⟨g', cap, cur, r1, r2, r3, r4⟩
   ·simp only [Value.slice.injEq] at q2
    obtain ⟨rfl, _⟩ := q2
    simp [Value.ownBlock]
   ·simp only [Value.slice.injEq] at r1
    obtain ⟨rfl, _⟩ := r1
    simpa [Value.ownBlock] using hne2 g' cur r3
  ·exact ((Below.refl B W).grown H2.out hB (fun k hk => (HO.out.lt k hk).1)).setCell (p := ⟨b, 0, none⟩) hBb _
  ·refine ((Lib.OthersKept.refl 9 (some b) W).grown H2.out (fun g' hg' => ?_)).setCell ⟨b, 0, none⟩ rfl _
   rcases HO.out.2 with ⟨q2, _⟩ | ⟨g2, cap, cur, r1, r2, r3, r4⟩
   ·simp only [Value.slice.injEq] at q2
    obtain ⟨rfl, _⟩ := q2
    simp [Value.ownBlock] at hg'
   ·simp only [Value.slice.injEq] at r1
    obtain ⟨rfl, _⟩ := r1
    simp only [Value.ownBlock, Option.some.injEq] at hg'
    subst hg'
    exact ⟨cur, _, r3⟩

open Go.RowKit

structure Pw (w0 w W : World) (B b H : Nat) (cs : Array Value) (l : List (List UInt8)) : Prop where
 pr : PrAt B b l W
 bel : Below B w W
 oth : Lib.OthersKept 9 (some b) w W
 box : W.heap[H]? = some (.cells cs 24 (0, 0))
 new : Below w0.heap.size w0 W
 sz : B ≤ W.heap.size
def PPost (w : World) (B b : Nat) (l : List (List UInt8)) (e : Ending) (w' : World) : Prop :=
 e = .returned (.tuple #[]) ∧ Hid (PrAt B b l w') ∧ Hid (Below B w w') ∧ Hid (Lib.OthersKept 9 (some b) w w')
theorem pr_past {B b : Nat} {l : List (List UInt8)} {w w' : World} (h : PrAt B b l w) (hb : Below w.heap.size w w') : PrAt B b l w' := by
 obtain ⟨hB, v, h1, ⟨h2, h3⟩, h4⟩ := h
 have lt : ∀ (g : Nat) (o : Obj), w.heap[g]? = some o → w'.heap[g]? = some o := fun g o ho => by rw [hb.block g (lt_of_obj ho)]; exact ho
 refine ⟨hB, v, lt _ _ h1, ⟨h2, ?_⟩, h4⟩
 rcases h3 with h3 | ⟨g, cap, cur, g1, g2, g3, g4⟩
 ·exact .inl h3
 ·exact .inr ⟨g, cap, cur, g1, g2, lt _ _ g3, g4⟩
theorem oth_past {e : TypeId} {b : Option Nat} {w w' : World} (hb : Below w.heap.size w w') : Lib.OthersKept e b w w' := by
 intro k o hk _ _
 rw [hb.block k (lt_of_obj hk)]
 exact hk
theorem pr_lt {B b : Nat} {l : List (List UInt8)} {w : World} (h : PrAt B b l w) : b < w.heap.size := by
 obtain ⟨_, v, h1, _⟩ := h
 exact lt_of_obj h1
theorem Pw.start {w0 w : World} {B b : Nat} {l : List (List UInt8)} (cs : Array Value) (hb : PrAt B b l w) (hB : B ≤ w.heap.size) (hn : Below w0.heap.size w0 w) : Pw w0 w (w.alloc (.cells cs 24)) B b w.heap.size cs l :=
 have h1 : Below w.heap.size w (w.alloc (.cells cs 24)) := (Below.refl _ _).alloc (Nat.le_refl _) _
 ⟨pr_past hb h1, h1.mono hB, oth_past h1, heap_alloc_new w _, hn.trans (h1.mono hn.size), Nat.le_trans hB h1.size⟩
theorem Pw.past {w0 w W W' : World} {B b H : Nat} {cs : Array Value} {l : List (List UInt8)} (h : Pw w0 w W B b H cs l) (hb : Below W.heap.size W W') : Pw w0 w W' B b H cs l :=
 ⟨pr_past h.pr hb, h.bel.trans (hb.mono h.sz), h.oth.trans (oth_past hb), (hb.block H (lt_of_obj h.box)).trans h.box, h.new.trans (hb.mono h.new.size), Nat.le_trans h.sz hb.size⟩
theorem Pw.said {w0 w W W' : World} {B b H : Nat} {cs : Array Value} {l l' : List (List UInt8)} (h : Pw w0 w W B b H cs l) (hH : H ≠ b) (h0 : w0.heap.size ≤ B) (hb : PrAt B b l' W') (hbel : Below B W W') (ho : Lib.OthersKept 9 (some b) W W') : Pw w0 w W' B b H cs l' :=
 ⟨hb, h.bel.trans hbel, h.oth.trans ho, ho H _ h.box (fun e => hH (Option.some.inj e)) (fun c fz e => by cases e), h.new.trans (hbel.mono h0), Nat.le_trans h.sz hbel.size⟩
theorem Pw.cell {w0 w W : World} {B b H : Nat} {cs : Array Value} {l : List (List UInt8)} (h : Pw w0 w W B b H cs l) (k : Nat) (v : Value) (hk : cs[k]? = some v) : W.cell? ⟨H, k, none⟩ = some v := by
 rw [cell_of_row _ H k cs 24 (0, 0) h.box]
 exact hk
theorem Pw.fin {w0 w W : World} {B b H : Nat} {cs : Array Value} {l l' : List (List UInt8)} (h : Pw w0 w W B b H cs l) (e : l = l') : PPost w B b l' (.returned (.tuple #[])) W := by
 subst e
 exact ⟨rfl, h.pr, h.bel, h.oth⟩

theorem say_lit {w0 w W : World} {B b H : Nat} {cs : Array Value} {l : List (List UInt8)} (h : Pw w0 w W B b H cs l) (hH : H ≠ b) (h0 : w0.heap.size ≤ B) (toks : List (List UInt8)) (hl : l.length + toks.length ≤ 1000000) :
  Calls Tryz.prog 49 #[.pointer (some ⟨b, 0, none⟩), .slice (some ⟨W.heap.size, 0, none⟩) toks.length toks.length] (W.alloc (.cells (toks.map strV).toArray 9)) fun e w' => e = .returned (.tuple #[]) ∧ Hid (Pw w0 w w' B b H cs (l ++ toks)) := by
 have hb : Below W.heap.size W (W.alloc (.cells (toks.map strV).toArray 9)) := (Below.refl _ _).alloc (Nat.le_refl _) _
 have hp := h.past hb
 refine (say_any _ B b l toks W.heap.size toks.length hp.pr hp.sz hl (fun j hj => ?_)).mono ?_
 ·rw [cell_of_row _ W.heap.size j _ 9 (0, 0) (heap_alloc_new W _)]
  simp [hj]
 ·rintro e w' ⟨rfl, h1, h2, h3⟩
  exact ⟨rfl, hp.said hH h0 h1.out h2.out h3.out⟩
theorem say1 {w0 w W : World} {B b H : Nat} {cs : Array Value} {l : List (List UInt8)} (h : Pw w0 w W B b H cs l) (hH : H ≠ b) (h0 : w0.heap.size ≤ B) (x : List UInt8) (hl : l.length ≤ 900000) :
  Calls Tryz.prog 49 #[.pointer (some ⟨b, 0, none⟩), .slice (some ⟨W.heap.size, 0, none⟩) 1 1] (W.alloc (.cells #[.string ⟨x.toArray⟩] 9)) fun e w' => e = .returned (.tuple #[]) ∧ Hid (Pw w0 w w' B b H cs (l ++ [x])) := say_lit h hH h0 [x] (by simp; omega)
theorem say2 {w0 w W : World} {B b H : Nat} {cs : Array Value} {l : List (List UInt8)} (h : Pw w0 w W B b H cs l) (hH : H ≠ b) (h0 : w0.heap.size ≤ B) (x y : List UInt8) (hl : l.length ≤ 900000) :
  Calls Tryz.prog 49 #[.pointer (some ⟨b, 0, none⟩), .slice (some ⟨W.heap.size, 0, none⟩) 2 2] (W.alloc (.cells #[.string ⟨x.toArray⟩, .string ⟨y.toArray⟩] 9)) fun e w' => e = .returned (.tuple #[]) ∧ Hid (Pw w0 w w' B b H cs (l ++ [x, y])) := say_lit h hH h0 [x, y] (by simp; omega)
theorem say3 {w0 w W : World} {B b H : Nat} {cs : Array Value} {l : List (List UInt8)} (h : Pw w0 w W B b H cs l) (hH : H ≠ b) (h0 : w0.heap.size ≤ B) (x y z : List UInt8) (hl : l.length ≤ 900000) :
  Calls Tryz.prog 49 #[.pointer (some ⟨b, 0, none⟩), .slice (some ⟨W.heap.size, 0, none⟩) 3 3] (W.alloc (.cells #[.string ⟨x.toArray⟩, .string ⟨y.toArray⟩, .string ⟨z.toArray⟩] 9)) fun e w' => e = .returned (.tuple #[]) ∧ Hid (Pw w0 w w' B b H cs (l ++ [x, y, z])) := say_lit h hH h0 [x, y, z] (by simp; omega)
def WP (w0 : World) (B b : Nat) (v : Value) (least : Int) (ts : List (List UInt8)) : Prop := ∀ (w : World) (l : List (List UInt8)), B ≤ w.heap.size → Below w0.heap.size w0 w → PrAt B b l w → l.length + ts.length ≤ 900000 →
 Calls Tryz.prog 20 #[.pointer (some ⟨b, 0, none⟩), v, .int .i64 least] w fun e w' => PPost w B b (l ++ ts) e w'
def BP (w0 : World) (B b : Nat) (v : Value) (ts : List (List UInt8)) : Prop := ∀ (w : World) (l : List (List UInt8)), B ≤ w.heap.size → Below w0.heap.size w0 w → PrAt B b l w → l.length + ts.length ≤ 900000 →
 Calls Tryz.prog 48 #[.pointer (some ⟨b, 0, none⟩), v] w fun e w' => PPost w B b (l ++ ts) e w'

theorem sign_any (x : List UInt8) (w : World) : Calls Tryz.prog 81 #[.string ⟨x.toArray⟩] w fun e w' => e = .returned (.int .i64 (if x = [43] ∨ x = [45] then 3 else if x = [42] then 4 else 1)) ∧ w' = w := by
 go_enter Tryz.func81, Tryz.ntmps81
 go_wp2
 all_goals go_ret
 all_goals simp_all
theorem levelP_any (k p m : Int) (x : List UInt8) (v : Value) (w : World) :
  Calls Tryz.prog 47 #[.agg #[.int .i64 k, .int .i64 p, .string ⟨x.toArray⟩, .int .i64 m, v]] w fun e w' => e = .returned (.int .i64 (levP k x)) ∧ Hid (Below w.heap.size w w') := by
 by_cases h18 : k = 18
 ·subst h18
  have e : levP 18 x = if x = [43] ∨ x = [45] then 3 else if x = [42] then 4 else 1 := by simp [levP]
  rw [e]
  have HS := hid (fun (w : World) => sign_any x w)
  generalize (if x = [43] ∨ x = [45] then (3 : Int) else if x = [42] then 4 else 1) = r at HS ⊢
  clear e
  go_enter Tryz.func47, Tryz.ntmps47
  go_wp2_with fail
  refine (HS.out _).mono ?_
  rintro e w' ⟨rfl, rfl⟩
  go_wp2_with fail
  go_ret
  exact ⟨rfl, (Below.refl _ _).alloc (Nat.le_refl _) _⟩
 ·unfold levP
  go_enter Tryz.func47, Tryz.ntmps47
  go_wp2
  all_goals go_ret
  all_goals refine ⟨ret_int ?_, (Below.refl _ _).alloc (Nat.le_refl _) _⟩
  all_goals simp_all

theorem writeP_any (w0 : World) (B b : Nat) (k p m least : Int) (x : List UInt8) (va : Option Addr) (vl vc : Nat) (ts : List (List UInt8)) (hB0 : w0.heap.size ≤ B)
  (h : BP w0 B b (.agg #[.int .i64 k, .int .i64 p, .string ⟨x.toArray⟩, .int .i64 m, .slice va vl vc]) ts) :
  WP w0 B b (.agg #[.int .i64 k, .int .i64 p, .string ⟨x.toArray⟩, .int .i64 m, .slice va vl vc]) least (if least ≤ levP k x then ts else [40] :: ts ++ [[41]]) := by
 intro w l hB hn hp hl
 have hbH : w.heap.size ≠ b := by have := pr_lt hp; omega
 have HBP := hid h
 have HL := hid (fun (w : World) => levelP_any k p m x (.slice va vl vc) w)
 have HW0 := hid (Pw.start (w0 := w0) (w := w) #[.int .i64 k, .int .i64 p, .string ⟨x.toArray⟩, .int .i64 m, .slice va vl vc] hp hB hn)
 clear h hp hn
 generalize levP k x = lv at HL hl ⊢
 by_cases hlt : least ≤ lv
 ·rw [if_pos hlt] at hl ⊢
  go_enter Tryz.func20, Tryz.ntmps20
  go_wp2_with fail
  refine (HL.out _).mono ?_
  rintro e w1 ⟨rfl, HB1⟩
  have HW1 := hid (HW0.out.past HB1.out)
  have b0 := HW1.out.cell 0 _ rfl
  have b1 := HW1.out.cell 1 _ rfl
  have b2 := HW1.out.cell 2 _ rfl
  have b3 := HW1.out.cell 3 _ rfl
  have b4 := HW1.out.cell 4 _ rfl
  go_wp2_with fail
  refine (HBP.out _ l HW1.out.sz HW1.out.new HW1.out.pr hl).mono ?_
  rintro e w2 ⟨rfl, H1, H2, H3⟩
  have HW2 := hid (HW1.out.said hbH hB0 H1.out H2.out H3.out)
  go_wp2_with fail
  go_end0
  exact HW2.out.fin rfl
 ·rw [if_neg hlt] at hl ⊢
  have hl2 : l.length + ts.length + 2 ≤ 900000 := by simp at hl; omega
  clear hl
  go_enter Tryz.func20, Tryz.ntmps20
  go_wp2_with fail
  refine (HL.out _).mono ?_
  rintro e w1 ⟨rfl, HB1⟩
  have HW1 := hid (HW0.out.past HB1.out)
  go_wp2_with fail
  refine (say1 HW1.out hbH hB0 [40] (by omega)).mono ?_
  rintro e w2 ⟨rfl, HW2⟩
  have b0 := HW2.out.cell 0 _ rfl
  have b1 := HW2.out.cell 1 _ rfl
  have b2 := HW2.out.cell 2 _ rfl
  have b3 := HW2.out.cell 3 _ rfl
  have b4 := HW2.out.cell 4 _ rfl
  go_wp2_with fail
  refine (HBP.out _ _ HW2.out.sz HW2.out.new HW2.out.pr (by simp; omega)).mono ?_
  rintro e w3 ⟨rfl, H1, H2, H3⟩
  have HW3 := hid (HW2.out.said hbH hB0 H1.out H2.out H3.out)
  go_wp2_with fail
  refine (say1 HW3.out hbH hB0 [41] (by simp; omega)).mono ?_
  rintro e w4 ⟨rfl, HW4⟩
  go_wp2_with fail
  go_end0
  exact HW4.out.fin (by simp)
end Go.Proofs.YtoajnlhegallpaaGreatDoor
