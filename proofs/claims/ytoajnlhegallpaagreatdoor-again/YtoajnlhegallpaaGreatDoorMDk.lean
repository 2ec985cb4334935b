/-
  What the program's names does.
  What the program's functions makes.
  What the program's rules do: function.
-/
import Derived.Test.YtoajnlhegallpaaGreatDoorMDj
import Derived.Test.YtoajnlhegallpaaGreatDoorMLh
import Derived.Deep.AppendLies
set_option linter.unusedVariables false
set_option linter.unusedSimpArgs false
set_option maxRecDepth 100000
set_option maxHeartbeats 4000000
namespace Go.Proofs.YtoajnlhegallpaaGreatDoor
open Go.RowKit

def NmRes (w : World) (b : Nat) (z : Sy.Env) (x : Sy.R (List Lx.Tk)) (e d : Nat) (en : Ending) (w' : World) : Prop :=
 match x with
 | .ok (l, ts) => ∃ v, en = .returned v ∧ Hid (w'.ownsRow w.heap.size 41 4 v l.length (Lr.cellsOf l)) ∧ Hid (Dr w' b z ts e d) ∧ Hid (Kp b w w')
 | .error f => Refuses f en ∧ Hid (Kp b w w')
theorem NmRes.yes {w : World} {b : Nat} {z : Sy.Env} {x : Sy.R (List Lx.Tk)} {e d : Nat} {en : Ending} {w' : World} (h : NmRes w b z x e d en w') {l : List Lx.Tk} {ts : List Lx.Tk} (hx : x = .ok (l, ts)) :
  ∃ v, en = .returned v ∧ Hid (w'.ownsRow w.heap.size 41 4 v l.length (Lr.cellsOf l)) ∧ Hid (Dr w' b z ts e d) ∧ Hid (Kp b w w') := by subst hx; exact h
theorem NmRes.no {w : World} {b : Nat} {z : Sy.Env} {x : Sy.R (List Lx.Tk)} {e d : Nat} {en : Ending} {w' : World} (h : NmRes w b z x e d en w') {f : Nat × Nat} (hx : x = .error f) : en = .panicked [{ v := refV f, recovered := false }] ∧ Hid (Kp b w w') := by subst hx; exact h
theorem NmRes.err {w : World} {b : Nat} {z : Sy.Env} {x : Sy.R (List Lx.Tk)} {e d : Nat} {w' : World} {f : Nat × Nat} (hx : x = .error f) (h2 : Kp b w w') : NmRes w b z x e d (.panicked [{ v := refV f, recovered := false }]) w' := by subst hx; exact ⟨rfl, h2⟩
theorem own_form {W : World} {base : Nat} {ty : TypeId} {size n : Nat} {v : Value} {xs : List Value} (h : W.ownsRow base ty size v n xs) : ∃ a c, v = .slice a n c := by
 rcases h.2 with ⟨h1, h2⟩ | ⟨g, cap, cur, h1, _⟩
 ·exact ⟨none, 0, by rw [h1, h2]⟩
 ·exact ⟨_, _, h1⟩
theorem own_kp {W W' : World} {base b : Nat} {ty : TypeId} {size n : Nat} {v : Value} {xs : List Value} (h : W.ownsRow base ty size v n xs) (hk : Kp b W W') (hb : b < base) : W'.ownsRow base ty size v n xs := by
 refine h.kept hk ?_
 cases hv : v.ownBlock with
 | none => exact .inl rfl
 | some g =>
  right
  intro e
  have h1 := (h.lt g hv).1
  have h2 := Option.some.inj e
  omega
theorem own_alloc {W : World} {base : Nat} {ty : TypeId} {size n : Nat} {v : Value} {xs : List Value} (h : W.ownsRow base ty size v n xs) (o : Obj) : (W.alloc o).ownsRow base ty size v n xs := Lr.own_below h ((Below.refl _ _).alloc (Nat.le_refl _) o)

structure Nm (w : World) (b : Nat) (z : Sy.Env) (ts : List Lx.Tk) (e d : Nat) (v : Value) (l : List Lx.Tk) (W : World) : Prop where
 own : W.ownsRow w.heap.size 41 4 v l.length (Lr.cellsOf l)
 rd : Dr W b z ts e d
 kp : Kp b w W
theorem Nm.app {w W W' : World} {b e d g cap : Nat} {z : Sy.Env} {ts : List Lx.Tk} {v : Value} {l : List Lx.Tk} {t : Lx.Tk} (h : Nm w b z ts e d v l W) (hb : b < w.heap.size)
  (ho : W'.ownsRow w.heap.size 41 4 (.slice (some ⟨g, 0, none⟩) (l.length + 1) cap) (l.length + 1) (Lr.cellsOf l ++ Lr.tkCells t)) (hg : W.grownBy W' v.ownBlock) : Nm w b z ts e d (.slice (some ⟨g, 0, none⟩) (l.length + 1) cap) (l ++ [t]) W' := by
 have hne : ∀ q, q < w.heap.size → some q ≠ v.ownBlock := fun q hq e => by
  have := (h.own.lt q e.symm).1
  omega
 refine ⟨?_, ?_, ?_⟩
 ·have := Lr.own_app ho
  simpa using this
 ·have hl := h.rd.lt
  obtain ⟨hg1, g1, n, c, i, h1, h2, h3, h4, h5, h6, h7⟩ := h.rd
  have hgg : W'.heap[g1]? = W.heap[g1]? := hg.block g1 h7.lt (hne g1 (by omega))
  exact ⟨hg1, g1, n, c, i, h1.of_heap (hg.block b hl (hne b hb)), h2, h3, h4, h5, fun j hj => (h6 j hj).of_heap hgg, h7.of_heap hgg⟩
 ·have hk := h.kp
  exact ⟨hg.os.trans hk.os, hg.tape.trans hk.tape, hg.output.trans hk.output, Nat.le_trans hk.size hg.size, fun i hi hn => (hg.block i (Nat.lt_of_lt_of_le hi hk.size) (hne i hi)).trans (hk.block i hi hn)⟩

theorem dnames (N e d : Nat) (hN : N ≤ 90000) (z : Sy.Env) (w : World) (b least : Nat) (hls : least ≤ 1) (ts : List Lx.Tk) (h : Dr w b z ts e d) (hn : ts.length < N) :
  Calls Tryz.prog 64 #[.pointer (some ⟨b, 0, none⟩), .int .i64 least] w fun en w' => NmRes w b z (Sy.namesB z least N [] ts) e d en w' := by
 obtain ⟨i0, hi, hiz0, hiz1, hiz2⟩ := info_parts Lr.Tryz.info41
 have hbR : b < w.heap.size := h.lt
 have HL0 : Hid (Nm w b z ts e d (.slice none 0 0) [] w) := ⟨World.ownsRow_nil _ _ _ _, h, Kp.refl _ _⟩
 clear h
 go_enter Tryz.func64, Tryz.ntmps64
 go_wp2_with fail
 go_loopg [5] N (fun n v wr => ∃ (l tr : List Lx.Tk), Hid (Nm w b z tr e d v l wr) ∧ Hid (Sy.namesB z least n l tr = Sy.namesB z least N [] ts) ∧ Hid (tr.length < n) ∧ Hid (l.length + tr.length ≤ ts.length))
 case atStart => exact ⟨[], ts, HL0, hid rfl, hn, hid (by simp)⟩
 case round =>
  obtain ⟨l, tr, HL, HE, HM, HB⟩ := hrel
  obtain ⟨m, hm⟩ : ∃ m, gk = m + 1 := ⟨gk - 1, by have := HM.out; omega⟩
  subst hm
  obtain ⟨aS, cS, hv⟩ := own_form HL.out.own
  subst hv
  have hlb0 : l.length ≤ ts.length := by have := HB.out; omega
  have hlb1 : l.length + 1 ≤ maxLen := by unfold maxLen; omega
  have hlb2 : (l.length + 1) * 40 ≤ 140737488355328 := by omega
  by_cases hlt : l.length < least
  ·have hI : (l.length : Int) < least := by omega
   have hd : decide ((l.length : Int) < (least : Int)) = true := by simp; omega
   go_wp2_with fail
   refine (dname _ b z tr e d HL.out.rd).mono ?_
   intro en w1 HD
   rcases hx : Sy.kindB z 2 tr with f | ⟨t, ts1⟩
   ·obtain ⟨rfl, HK1⟩ := HD.no hx
    have HKE := hid (HL.out.kp.trans HK1.out)
    go_wp2_with fail
    exact ⟨rfl, NmRes.err (by rw [← HE.out]; simp [Sy.namesB, Sy.bnd, hlt, hx]) HKE.out⟩
   obtain ⟨rfl, HR1, HK1⟩ := HD.yes hx
   dsimp only [tkV]
   have HX := hid hx
   clear HD hx
   have ht1 := HK1.out.size
   have hlt1 := lt_kind (by decide) HX.out
   have HL1 : Hid (Nm w b z ts1 e d (.slice aS l.length cS) l w1) := ⟨own_kp HL.out.own HK1.out hbR, HR1.out, HL.out.kp.trans HK1.out⟩
   have HL2 : Hid (Nm w b z ts1 e d (.slice aS l.length cS) l (w1.alloc (.cells #[.int .i64 t.kind, .int .i64 t.pos, .string ⟨t.text.toArray⟩, .int .i64 t.num] 41))) := ⟨own_alloc HL1.out.own _, HL1.out.rd.alloc _, HL1.out.kp.alloc _⟩
   have HNW := hid (Lr.new_cells (w := w1) t 41)
   have hb2 : w.heap.size ≤ (w1.alloc (.cells #[.int .i64 t.kind, .int .i64 t.pos, .string ⟨t.text.toArray⟩, .int .i64 t.num] 41)).heap.size := HL2.out.kp.size
   go_wp2_with (at_builtin; go_must (refine wpList_append_lies _ rfl _ _ 53 rfl w.heap.size 41 i0 (.agg #[.int .i64 0, .int .i64 0, .string ⟨#[]⟩, .int .i64 0]) 4 40 Tryz.underlying53 hi hiz0 hiz1 hiz2 rfl (by decide) (.slice aS l.length cS) l.length (Lr.cellsOf l) rfl HL2.out.own ⟨w1.heap.size, 0, none⟩ 1 1 (Lr.tkCells t) rfl rfl HNW.out (Lr.one_cells _) (by decide) hlb1 hlb2 hb2 _ rfl ?_); intro g cap w3 hown hgrow hat hlt3)
   have HL3 := hid (HL2.out.app hbR hown hgrow)
   have HE2 : Hid (Sy.namesB z least m (l ++ [t]) ts1 = Sy.namesB z least N [] ts) := by rw [Hid, ← HE.out]; simp [Sy.namesB, Sy.bnd, hlt, HX.out]
   go_roundg m
   case measure => omega
   case rel => exact ⟨l ++ [t], ts1, hid (by simpa using HL3.out), HE2, hid (by have := HM.out; omega), hid (by have := HB.out; simp; omega)⟩
  ·have hI : ¬ (l.length : Int) < least := by omega
   have hd : decide ((l.length : Int) < (least : Int)) = false := by simp; omega
   go_wp2_with fail
   refine (dlook _ b z tr e d HL.out.rd).mono ?_
   intro en w0 HD
   rcases hl : Sy.lookB z tr with f | ⟨t0, us⟩
   ·obtain ⟨rfl, HK0⟩ := HD.no hl
    have HKE := hid (HL.out.kp.trans HK0.out)
    go_wp2_with fail
    exact ⟨rfl, NmRes.err (by rw [← HE.out]; simp [Sy.namesB, Sy.bnd, hlt, hl]) HKE.out⟩
   obtain ⟨rfl, HR0, HK0⟩ := HD.yes hl
   have HLk : Hid (Sy.lookB z tr = .ok (t0, tr)) := by obtain ⟨h1, _⟩ := look_ok hl; rw [Hid, hl, h1]
   have hus := (look_ok hl).1
   subst hus
   dsimp only [tkV]
   clear HD hl
   obtain ⟨hf0, hf1, hf2, hf3⟩ := fld_tk (.int .i64 t0.kind) (.int .i64 t0.pos) (.string ⟨t0.text.toArray⟩) (.int .i64 t0.num)
   have HOW := hid (own_kp HL.out.own HK0.out hbR)
   have HKW := hid (HL.out.kp.trans HK0.out)
   by_cases hk : t0.kind = 2
   ·have hk1 : ((t0.kind : Int) == 2) = true := by simp; omega
    have HK2 := hid hk
    clear hk
    go_wp2_with fail
    refine (dname _ b z us e d HR0.out).mono ?_
    intro en w1 HD
    rcases hx : Sy.kindB z 2 us with f | ⟨t, ts1⟩
    ·obtain ⟨rfl, HK1⟩ := HD.no hx
     have HKE := hid (HKW.out.trans HK1.out)
     go_wp2_with fail
     exact ⟨rfl, NmRes.err (by rw [← HE.out]; simp [Sy.namesB, Sy.bnd, hlt, HLk.out, HK2.out, hx]) HKE.out⟩
    obtain ⟨rfl, HR1, HK1⟩ := HD.yes hx
    dsimp only [tkV]
    have HX := hid hx
    clear HD hx
    have ht1 := HK1.out.size
    have hlt1 := lt_kind (by decide) HX.out
    have HL1 : Hid (Nm w b z ts1 e d (.slice aS l.length cS) l w1) := ⟨own_kp HOW.out HK1.out hbR, HR1.out, HKW.out.trans HK1.out⟩
    have HL2 : Hid (Nm w b z ts1 e d (.slice aS l.length cS) l (w1.alloc (.cells #[.int .i64 t.kind, .int .i64 t.pos, .string ⟨t.text.toArray⟩, .int .i64 t.num] 41))) := ⟨own_alloc HL1.out.own _, HL1.out.rd.alloc _, HL1.out.kp.alloc _⟩
    have HNW := hid (Lr.new_cells (w := w1) t 41)
    have hb2 : w.heap.size ≤ (w1.alloc (.cells #[.int .i64 t.kind, .int .i64 t.pos, .string ⟨t.text.toArray⟩, .int .i64 t.num] 41)).heap.size := HL2.out.kp.size
    go_wp2_with (at_builtin; go_must (refine wpList_append_lies _ rfl _ _ 53 rfl w.heap.size 41 i0 (.agg #[.int .i64 0, .int .i64 0, .string ⟨#[]⟩, .int .i64 0]) 4 40 Tryz.underlying53 hi hiz0 hiz1 hiz2 rfl (by decide) (.slice aS l.length cS) l.length (Lr.cellsOf l) rfl HL2.out.own ⟨w1.heap.size, 0, none⟩ 1 1 (Lr.tkCells t) rfl rfl HNW.out (Lr.one_cells _) (by decide) hlb1 hlb2 hb2 _ rfl ?_); intro g cap w3 hown hgrow hat hlt3)
    have HL3 := hid (HL2.out.app hbR hown hgrow)
    have HE2 : Hid (Sy.namesB z least m (l ++ [t]) ts1 = Sy.namesB z least N [] ts) := by rw [Hid, ← HE.out]; simp [Sy.namesB, Sy.bnd, hlt, HLk.out, HK2.out, HX.out]
    go_roundg m
    case measure => omega
    case rel => exact ⟨l ++ [t], ts1, hid (by simpa using HL3.out), HE2, hid (by have := HM.out; omega), hid (by have := HB.out; simp; omega)⟩
   ·have hk1 : ((t0.kind : Int) == 2) = false := by simp; omega
    have HK2 := hid hk
    clear hk
    go_wp2_with fail
    refine bodyPost_ret (v := .slice aS l.length cS) (by simp [results, Tryz.results64, go_sem]) rfl ?_
    have hx : Sy.namesB z least N [] ts = .ok (l, us) := by rw [← HE.out]; simp [Sy.namesB, Sy.bnd, hlt, HLk.out, HK2.out]
    rw [hx]
    exact ⟨_, rfl, HOW, HR0, HKW⟩

open Go.RowKit

structure Fw (w : World) (A R lo : Nat) (T : Sy.Tr) (W : World) : Prop where
 var : ∃ a l c, Blk W A [.int .i64 T.kind, .int .i64 T.pos, .string ⟨T.name.toArray⟩, .int .i64 T.num, .slice a l c] ∧ Kids W (fun g => lo ≤ g ∧ g ≠ A ∧ g ≠ R) (.slice a l c) T.kids
 res : ∃ r0 r1 r2 r3 r4, Blk W R [r0, r1, r2, r3, r4]
 below : Below w.heap.size w W
def FnRes (w : World) (F : Nat → Prop) (T : Sy.Tr) (en : Ending) (w' : World) : Prop :=
 ∃ a l c, en = .returned (.agg #[.int .i64 T.kind, .int .i64 T.pos, .string ⟨T.name.toArray⟩, .int .i64 T.num, .slice a l c]) ∧ Hid (Kids w' F (.slice a l c) T.kids) ∧ Hid (Below w.heap.size w w')

theorem fw_put {w W : World} {R lo : Nat} {T2 T : Sy.Tr} {o0 o1 o2 o3 o4 r0 r1 r2 r3 r4 : Value} {a : Option Addr} {l c : Nat} (hA : Blk W w.heap.size [o0, o1, o2, o3, o4]) (hR : Blk W R [r0, r1, r2, r3, r4]) (hAR : R ≠ w.heap.size) (hlo : lo ≤ W.heap.size)
  (hk : Kids W (fun g => lo ≤ g ∧ g ≠ w.heap.size ∧ g ≠ R) (.slice a l c) T2.kids) (hb : Below w.heap.size w W) (hT : T.kids = [T2]) (ty : TypeId) (kk pp nn : Int) (xx : ByteArray) (e1 : kk = T.kind) (e2 : pp = T.pos) (e3 : xx = ⟨T.name.toArray⟩) (e4 : nn = T.num) :
  Fw w w.heap.size R lo T ((sto5 W w.heap.size (.int .i64 kk) (.int .i64 pp) (.string xx) (.int .i64 nn) (.slice (some ⟨W.heap.size, 0, none⟩) 1 1)).alloc (.cells #[.int .i64 T2.kind, .int .i64 T2.pos, .string ⟨T2.name.toArray⟩, .int .i64 T2.num, .slice a l c] ty)) := by
 subst e1 e2 e3 e4
 have hAW := hA.lt
 have hRW := hR.lt
 have hs : (sto5 W w.heap.size (.int .i64 T.kind) (.int .i64 T.pos) (.string ⟨T.name.toArray⟩) (.int .i64 T.num) (.slice (some ⟨W.heap.size, 0, none⟩) 1 1)).heap.size = W.heap.size := by simp [sto5]
 have hkk := kids_newH (w1 := sto5 W w.heap.size (.int .i64 T.kind) (.int .i64 T.pos) (.string ⟨T.name.toArray⟩) (.int .i64 T.num) (.slice (some ⟨W.heap.size, 0, none⟩) 1 1)) (F := fun g => lo ≤ g ∧ g ≠ w.heap.size ∧ g ≠ R) (ty := ty) W.heap.size hs [(T2, .slice a l c)] (by simp) ⟨hlo, by omega, by omega⟩
  (fun p hp => by simp only [List.mem_cons, List.not_mem_nil, or_false] at hp; subst hp; exact hk.carry (fun g hg _ => sto5_heap _ _ _ _ _ _ _ _ hg.2.1) (fun g hg _ => hg)) _ rfl 1 rfl (Below.refl _ _)
 refine ⟨⟨some ⟨W.heap.size, 0, none⟩, 1, 1, (hA.store _ _ _ _ _).alloc _, by rw [hT]; exact hkk⟩, ⟨r0, r1, r2, r3, r4, (hR.of_heap (sto5_heap _ _ _ _ _ _ _ _ hAR)).alloc _⟩, Below.alloc (((((hb.setCell (Nat.le_refl _) _).setCell (Nat.le_refl _) _).setCell (Nat.le_refl _) _).setCell (Nat.le_refl _) _).setCell (Nat.le_refl _) _) (by simp; omega) _⟩
theorem Fw.drew {w W : World} {A R lo : Nat} {T : Sy.Tr} (h : Fw w A R lo T W) : Fw w A R lo T W.drew := by
 obtain ⟨⟨a, l, c, h1, h2⟩, ⟨r0, r1, r2, r3, r4, h3⟩, h4⟩ := h
 exact ⟨⟨a, l, c, h1.of_heap rfl, h2.carry (fun _ _ _ => rfl) (fun _ h _ => h)⟩, ⟨_, _, _, _, _, h3.of_heap rfl⟩, h4.drew⟩

theorem fns_drop (l : List Lx.Tk) (T : Sy.Tr) (j : Nat) (h : j < l.length) : Sy.fns (l.drop j) T = Sy.nm 7 l[j].pos l[j].text [Sy.fns (l.drop (j + 1)) T] := by
 unfold Sy.fns
 rw [List.drop_eq_getElem_cons h, List.foldr_cons]
theorem cellsOf_get : ∀ (l : List Lx.Tk) (i j : Nat) (h : i < l.length), j < 4 → (Lr.cellsOf l)[i * 4 + j]? = (Lr.tkCells l[i])[j]? := by
 intro l
 induction l with
 | nil => intro i j h; simp at h
 | cons t l ih =>
  intro i j h hj
  have e : Lr.cellsOf (t :: l) = Lr.tkCells t ++ Lr.cellsOf l := by simp [Lr.cellsOf]
  have hl : (Lr.tkCells t).length = 4 := rfl
  rw [e]
  cases i with
  | zero =>
   rw [Nat.zero_mul, Nat.zero_add, List.getElem?_append_left (by omega)]
   rfl
  | succ i =>
   rw [List.getElem?_append_right (by omega), hl, show (i + 1) * 4 + j - 4 = i * 4 + j by omega]
   exact ih i j (by simpa using h) hj
theorem own_tk {W : World} {base g n cap : Nat} {l : List Lx.Tk} (h : W.ownsRow base 41 4 (.slice (some ⟨g, 0, none⟩) n cap) l.length (Lr.cellsOf l)) (j : Nat) (hj : j < l.length) : TkAt W g (j * 4) l[j] := by
 have hc : ∀ q u, q < 4 → (Lr.tkCells l[j])[q]? = some u → W.cell? ⟨g, j * 4 + q, none⟩ = some u := by
  intro q u hq hu
  have h3 := h.cells (g := g) rfl (j * 4 + q) u (by rw [cellsOf_get l j q hj hq]; exact hu)
  have e : (⟨g, 0, none⟩ : Addr).add (j * 4 + q) = ⟨g, j * 4 + q, none⟩ := by unfold Addr.add; split <;> simp_all
  rw [e] at h3
  exact h3
 exact ⟨hc 0 _ (by omega) rfl, hc 1 _ (by omega) rfl, hc 2 _ (by omega) rfl, hc 3 _ (by omega) rfl⟩

theorem dfunctions (w : World) (lo base : Nat) (v : Value) (l : List Lx.Tk) (hl : l.length ≤ 90000) (hv : w.ownsRow base 41 4 v l.length (Lr.cellsOf l)) (T : Sy.Tr) (a : Option Addr) (ln c : Nat) (hlo : lo ≤ w.heap.size) (hk : Kids w (fun g => lo ≤ g) (.slice a ln c) T.kids) :
  Calls Tryz.prog 65 #[v, .agg #[.int .i64 T.kind, .int .i64 T.pos, .string ⟨T.name.toArray⟩, .int .i64 T.num, .slice a ln c]] w fun en w' => FnRes w (fun g => lo ≤ g) (Sy.fns l T) en w' := by
 obtain ⟨aS, cS, hvf⟩ := own_form hv
 subst hvf
 have HV := hid hv
 have HK := hid hk
 clear hv hk
 have HF0 : Hid (Fw w w.heap.size (w.heap.size + 1) lo (Sy.fns (l.drop l.length) T) ((w.alloc (.cells #[.int .i64 T.kind, .int .i64 T.pos, .string ⟨T.name.toArray⟩, .int .i64 T.num, .slice a ln c] 24)).alloc (.cells #[.int .i64 0, .int .i64 0, .string ⟨#[]⟩, .int .i64 0, .slice none 0 0] 24))) := by
  rw [Hid, List.drop_length]
  have hz : (w.alloc (.cells #[.int .i64 T.kind, .int .i64 T.pos, .string ⟨T.name.toArray⟩, .int .i64 T.num, .slice a ln c] 24)).heap.size = w.heap.size + 1 := by simp
  have h := Blk.new (w.alloc (.cells #[.int .i64 T.kind, .int .i64 T.pos, .string ⟨T.name.toArray⟩, .int .i64 T.num, .slice a ln c] 24)) [.int .i64 0, .int .i64 0, .string ⟨#[]⟩, .int .i64 0, .slice none 0 0] 24
  rw [hz] at h
  have hB : Below w.heap.size w ((w.alloc (.cells #[.int .i64 T.kind, .int .i64 T.pos, .string ⟨T.name.toArray⟩, .int .i64 T.num, .slice a ln c] 24)).alloc (.cells #[.int .i64 0, .int .i64 0, .string ⟨#[]⟩, .int .i64 0, .slice none 0 0] 24)) := ((Below.refl _ _).alloc (Nat.le_refl _) _).alloc (by simp) _
  exact ⟨⟨a, ln, c, (Blk.new w [_, _, _, _, _] _).alloc _, (HK.out.weak (fun g hg hlt => ⟨hg, by omega, by omega⟩)).pastF hB⟩, ⟨_, _, _, _, _, h⟩, hB⟩
 go_enter Tryz.func65, Tryz.ntmps65
 go_wp2_with fail
 go_loopg [5] l.length (fun n u wr => u = .int .i64 ((n : Int) - 1) ∧ n ≤ l.length ∧ Hid (Fw w w.heap.size (w.heap.size + 1) lo (Sy.fns (l.drop n) T) wr))
 case atStart => exact ⟨rfl, Nat.le_refl _, HF0⟩
 case round =>
  obtain ⟨hu, hnl, HF⟩ := hrel
  subst hu
  obtain ⟨aA, lA, cA, hVA, hKA⟩ := HF.out.var
  have HKA := hid hKA
  obtain ⟨r0, r1, r2, r3, r4, hRA⟩ := HF.out.res
  have HVA := hid hVA
  have HRA := hid hRA
  have hAl : w.heap.size < wr.heap.size := hVA.lt
  clear hVA hRA hKA
  obtain ⟨⟨q0, q1, q2, q3, q4⟩, q5, q6, q7, q8, q9⟩ := blk5 HVA.out
  obtain ⟨⟨u0, u1, u2, u3, u4⟩, u5', u6', u7', u8', u9'⟩ := blk5 HRA.out
  rcases gk with _ | j
  ·have hge : ¬ (0 : Int) ≤ ((0 : Nat) : Int) - 1 := by omega
   have HT : Hid (Sy.fns (l.drop 0) T = Sy.fns l T) := by simp [Hid]
   generalize Sy.fns (l.drop 0) T = T2 at *
   go_wp2_with fail
   refine bodyPost_ret (v := .agg #[.int .i64 T2.kind, .int .i64 T2.pos, .string ⟨T2.name.toArray⟩, .int .i64 T2.num, .slice aA lA cA]) (by simp [results, Tryz.results65, go_sem, u0, u1, u2, u3, u4]) rfl ?_
   rw [← HT.out]
   refine ⟨_, _, _, rfl, hid ?_, hid ?_⟩
   ·exact HKA.out.carry (fun g hg _ => sto5_heap wr (w.heap.size + 1) _ _ _ _ _ _ hg.2.2) (fun g hg _ => hg.1)
   ·exact ((((HF.out.below.setCell (show w.heap.size ≤ w.heap.size + 1 by omega) _).setCell (show w.heap.size ≤ w.heap.size + 1 by omega) _).setCell (show w.heap.size ≤ w.heap.size + 1 by omega) _).setCell (show w.heap.size ≤ w.heap.size + 1 by omega) _).setCell (show w.heap.size ≤ w.heap.size + 1 by omega) _
  ·have hj : (((j + 1 : Nat) : Int) - 1) = (j : Int) := by omega
   have hge : (0 : Int) ≤ (j : Int) := by omega
   have hjl : j < l.length := by omega
   have hji : (j : Int) < l.length := by omega
   rw [hj]
   clear hj
   obtain ⟨g, hg⟩ : ∃ g, aS = some ⟨g, 0, none⟩ := by
    rcases HV.out.2 with ⟨h1, h2⟩ | ⟨g, cap, cur, h1, _⟩
    ·omega
    ·simp only [Value.slice.injEq] at h1
     exact ⟨g, h1.1⟩
   subst hg
   have htk := own_tk HV.out j hjl
   have hgl := htk.lt
   have htk2 := htk.of_heap (HF.out.below.block g hgl)
   obtain ⟨k0, k1, k2, k3⟩ := htk2
   have hgA : ¬ w.heap.size = g := by omega
   have hgw : g < wr.heap.size := by omega
   have hgn : ¬ g = wr.heap.size := by omega
   have hAn : ¬ w.heap.size = wr.heap.size := by omega
   clear htk
   generalize hX : Sy.fns (l.drop (j + 1)) T = T2 at *
   generalize hY : l[j] = t at *
   go_wp2_with fail
   go_region
   all_goals
    have HFX := hid (fw_put (w := w) (T := Sy.nm 7 t.pos t.text [T2]) HVA.out HRA.out (by omega) (by omega) HKA.out HF.out.below rfl 24 7 t.pos 0 ⟨t.text.toArray⟩ rfl rfl rfl rfl)
    have HEQ : Hid (Sy.fns (l.drop j) T = Sy.nm 7 t.pos t.text [T2]) := by rw [Hid, fns_drop l T j hjl, hX, hY]
    go_wp2_with fail
    go_roundg j
    case measure => omega
    case rel =>
     refine ⟨rfl, by omega, ?_⟩
     rw [HEQ.out]
     exact hid (by first | exact HFX.out.drew | exact HFX.out)

open Go.RowKit

theorem own_drew {W : World} {base : Nat} {ty : TypeId} {size n : Nat} {v : Value} {xs : List Value} (h : W.ownsRow base ty size v n xs) : W.drew.ownsRow base ty size v n xs := Lr.own_below h (Below.refl _ _).drew
theorem names_len {z : Sy.Env} {least : Nat} : ∀ (n : Nat) (l ts : List Lx.Tk) (l2 us : List Lx.Tk), Sy.namesB z least n l ts = .ok (l2, us) → l2.length + us.length ≤ l.length + ts.length := by
 intro n
 induction n with
 | zero =>
  intro l ts l2 us h
  unfold Sy.namesB at h
  cases hl : Sy.lookB z ts with
  | error f => rw [hl] at h; cases h
  | ok q => rw [hl] at h; cases h
 | succ n ih =>
  intro l ts l2 us h
  have step : ∀ {h : Sy.bnd (Sy.kindB z 2 ts) (fun t ts => Sy.namesB z least n (l ++ [t]) ts) = .ok (l2, us)}, l2.length + us.length ≤ l.length + ts.length := by
   intro h
   rcases hk : Sy.kindB z 2 ts with f | ⟨t, vs⟩
   ·rw [hk] at h; cases h
   ·rw [hk] at h
    have h1 := lt_kind (by decide) hk
    have h2 := ih _ _ _ _ h
    simp only [List.length_append, List.length_cons, List.length_nil] at h2
    omega
  unfold Sy.namesB at h
  by_cases hlt : l.length < least
  ·rw [if_pos hlt] at h
   exact step (h := h)
  ·rw [if_neg hlt] at h
   rcases hl : Sy.lookB z ts with f | ⟨t, vs⟩
   ·rw [hl] at h; cases h
   ·rw [hl, Sy.bnd_ok] at h
    by_cases hk : (t.kind == 2) = true
    ·rw [if_pos hk] at h
     exact step (h := h)
    ·rw [if_neg hk] at h
     cases h
     exact Nat.le_refl _

theorem at_kind (T : Sy.Tr) (p : Nat) : (T.at p).kind = T.kind := by cases T; rfl
theorem at_pos (T : Sy.Tr) (p : Nat) : (T.at p).pos = p := by cases T; rfl
theorem at_name (T : Sy.Tr) (p : Nat) : (T.at p).name = T.name := by cases T; rfl
theorem at_num (T : Sy.Tr) (p : Nat) : (T.at p).num = T.num := by cases T; rfl
theorem at_kids (T : Sy.Tr) (p : Nat) : (T.at p).kids = T.kids := by cases T; rfl
theorem dfunction (N e d : Nat) (hN : N ≤ 90000) (z : Sy.Env) (E : List Lx.Tk → Sy.R Sy.Tr) (hE : EOK N e d z E) : ROK1 103 N e d z (Sy.fnB z N E) := by
 intro w b t0 tl h hn
 have H := hid h
 have hbR : b < w.heap.size := h.lt
 clear h
 go_enter Tryz.func103, Tryz.ntmps103
 go_wp2_with fail
 obtain ⟨W0, hW0, HI⟩ := jn1 H.out 24
 rw [hW0]
 clear hW0
 have hz0 := HI.out.size
 have hlt0 : tl.length < N := by simp only [List.length_cons] at hn; omega
 obtain ⟨hf0, hf1, hf2, hf3⟩ := fld_tk (.int .i64 t0.kind) (.int .i64 t0.pos) (.string ⟨t0.text.toArray⟩) (.int .i64 t0.num)
 refine (dtake _ b z t0 tl e d (by repeat (with_reducible (first | exact HI.out.rd | apply Dr.drew)))).mono ?_
 intro en w1 HD
 obtain ⟨rfl, HR1, HK1⟩ := HD.yes rfl
 dsimp only [tkV]
 clear HD
 have ht1 := HK1.out.size
 have HRS1 := hid ((show Blk _ w.heap.size [_, _, _, _, _] by repeat (with_reducible (first | exact HI.out.one | apply Blk.drew))).kp HK1.out (by omega))
 have HKA1 := hid ((show Kp b w _ by repeat (with_reducible (first | exact HI.out.kp | apply Kp.drew))).trans HK1.out)
 go_wp2_with fail
 refine (dnames N e d hN z _ b 1 (by decide) tl (by repeat (with_reducible (first | exact HR1.out | apply Dr.drew))) hlt0).mono ?_
 intro en w2 HD
 rcases hx2 : Sy.namesB z 1 N [] tl with f2 | ⟨pl2, ts2⟩
 ·obtain ⟨rfl, HK2⟩ := HD.no hx2
  have HKE := hid ((show Kp b w _ by repeat (with_reducible (first | exact HKA1.out | apply Kp.drew))).trans HK2.out)
  go_wp2_with fail
  exact ⟨rfl, DRes.err (by simp [Sy.fnB, Sy.takeB, Sy.lookB, Sy.iteB_takes, Sy.bnd, hx2]) HKE.out⟩
 have H2 := hid hx2
 have hn2 : ts2.length < N := Nat.lt_of_le_of_lt (le_names _ _ _ (Nat.le_refl _) _ _ hx2) hlt0
 have hpl2 : pl2.length ≤ 90000 := by have h1 := names_len _ _ _ _ _ hx2; simp only [List.length_nil] at h1; omega
 obtain ⟨vn2, rfl, HOW2, HR2, HK2⟩ := HD.yes hx2
 clear hx2 HD
 have ht2 := HK2.out.size
 have HRS2 := hid ((show Blk _ w.heap.size [_, _, _, _, _] by repeat (with_reducible (first | exact HRS1.out | apply Blk.drew))).kp HK2.out (by omega))
 have HKA2 := hid ((show Kp b w _ by repeat (with_reducible (first | exact HKA1.out | apply Kp.drew))).trans HK2.out)
 go_wp2_with fail
 refine (dneed _ b z ts2 e d Sy.s_to (by decide) (by repeat (with_reducible (first | exact HR2.out | apply Dr.drew)))).mono ?_
 intro en w3 HD
 rcases hx3 : Sy.needB z Sy.s_to ts2 with f3 | ⟨u3, ts3⟩
 ·obtain ⟨rfl, HK3⟩ := HD.no hx3
  have HKE := hid ((show Kp b w _ by repeat (with_reducible (first | exact HKA2.out | apply Kp.drew))).trans HK3.out)
  go_wp2_with fail
  exact ⟨rfl, DRes.err (by simp [Sy.fnB, Sy.takeB, Sy.lookB, Sy.iteB_takes, Sy.bnd, H2.out, hx3]) HKE.out⟩
 have H3 := hid hx3
 have hn3 : ts3.length < N := Nat.lt_of_le_of_lt (le_need (Nat.le_refl _) _ _ hx3) hn2
 obtain ⟨rfl, HR3, HK3⟩ := HD.yes hx3
 clear hx3 HD
 have ht3 := HK3.out.size
 have HO2_3 := hid (own_kp (show World.ownsRow _ w1.heap.size 41 4 vn2 pl2.length (Lr.cellsOf pl2) by repeat (with_reducible (first | exact HOW2.out | apply own_drew))) HK3.out (by omega))
 have HRS3 := hid ((show Blk _ w.heap.size [_, _, _, _, _] by repeat (with_reducible (first | exact HRS2.out | apply Blk.drew))).kp HK3.out (by omega))
 have HKA3 := hid ((show Kp b w _ by repeat (with_reducible (first | exact HKA2.out | apply Kp.drew))).trans HK3.out)
 go_wp2_with fail
 refine (hE.calls _ b ts3 (by repeat (with_reducible (first | exact HR3.out | apply Dr.drew))) hn3).mono ?_
 intro en w4 HD
 rcases hx4 : E ts3 with f4 | ⟨y4, ts4⟩
 ·obtain ⟨rfl, HK4⟩ := HD.no hx4
  have HKE := hid ((show Kp b w _ by repeat (with_reducible (first | exact HKA3.out | apply Kp.drew))).trans HK4.out)
  go_wp2_with fail
  exact ⟨rfl, DRes.err (by simp [Sy.fnB, Sy.takeB, Sy.lookB, Sy.iteB_takes, Sy.bnd, H2.out, H3.out, hx4]) HKE.out⟩
 have H4 := hid hx4
 have hn4 : ts4.length < N := Nat.lt_of_le_of_lt (hE.le _ _ (Nat.le_refl _) _ _ hx4) hn3
 obtain ⟨a4, l4, c4, rfl, HKd4, HR4, HK4⟩ := HD.yes hx4
 clear hx4 HD
 have ht4 := HK4.out.size
 have HO2_4 := hid (own_kp (show World.ownsRow _ w1.heap.size 41 4 vn2 pl2.length (Lr.cellsOf pl2) by repeat (with_reducible (first | exact HO2_3.out | apply own_drew))) HK4.out (by omega))
 have HRS4 := hid ((show Blk _ w.heap.size [_, _, _, _, _] by repeat (with_reducible (first | exact HRS3.out | apply Blk.drew))).kp HK4.out (by omega))
 have HKA4 := hid ((show Kp b w _ by repeat (with_reducible (first | exact HKA3.out | apply Kp.drew))).trans HK4.out)
 go_wp2_with fail
 refine (dfunctions _ W0.heap.size w1.heap.size vn2 pl2 hpl2 HO2_4.out y4 a4 l4 c4 (by omega) (HKd4.out.weak (fun g hg _ => Nat.le_trans (by omega) hg))).mono ?_
 rintro en w5 ⟨a5, l5, c5, rfl, HKf5, HB5⟩
 have ht5 := HB5.out.size
 have HO2_5 := hid (Lr.own_below (show World.ownsRow _ w1.heap.size 41 4 vn2 pl2.length (Lr.cellsOf pl2) by repeat (with_reducible (first | exact HO2_4.out | apply own_drew))) HB5.out)
 have HRS5 := hid ((show Blk _ w.heap.size [_, _, _, _, _] by repeat (with_reducible (first | exact HRS4.out | apply Blk.drew))).past HB5.out)
 have HKA5 := hid ((show Kp b w _ by repeat (with_reducible (first | exact HKA4.out | apply Kp.drew))).below HB5.out)
 have HR5 := hid ((show Dr _ b z ts4 e d by repeat (with_reducible (first | exact HR4.out | apply Dr.drew))).below HB5.out)
 generalize hTT : Sy.fns pl2 y4 = TT at *
 obtain ⟨⟨u1_0, u1_1, u1_2, u1_3, u1_4⟩, u1_5, u1_6, u1_7, u1_8, u1_9⟩ := blk5 HRS5.out
 have hlw : w.heap.size < w5.heap.size := Blk.lt HRS5.out
 go_wp2_with fail
 refine bodyPost_ret (v := .agg #[.int .i64 TT.kind, .int .i64 t0.pos, .string ⟨TT.name.toArray⟩, .int .i64 TT.num, .slice a5 l5 c5]) (by simp [results, Tryz.results103, go_sem, u1_0, u1_1, u1_2, u1_3, u1_4, hlw]) rfl ?_
 refine DRes.alloc ?_ _
 exact dres_fin (lo := W0.heap.size) (TT.at t0.pos) ts4 (by rw [at_kids]; exact HKf5.out) HR5.out HKA5.out (by simp [Sy.fnB, Sy.takeB, Sy.lookB, Sy.bnd, H2.out, H3.out, H4.out, hTT]) (by omega) (by omega) (by omega) _ _ _ _ (by rw [at_kind]) (by rw [at_pos]) (by rw [at_name]) (by rw [at_num]) _ _ _ _ _
end Go.Proofs.YtoajnlhegallpaaGreatDoor
