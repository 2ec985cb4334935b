/-
  The program's reader in memory, and what look does.
  What the small methods of the program's reader do: wrong, sees, take, takes, need, needKind, name.
  What the small methods of the program's reader do: takes, need, needKind, name, named.
  What a rule of the program's reader that reads a tree answers; named, joined.
-/
import Derived.Test.YtoajnlhegallpaaGreatDoorMRef
import Derived.Test.YtoajnlhegallpaaGreatDoorMRx
set_option linter.unusedVariables false
set_option linter.unusedSimpArgs false
set_option maxRecDepth 100000
set_option maxHeartbeats 2000000
namespace Go.Proofs.YtoajnlhegallpaaGreatDoor
open Go.RowKit

def TkAt (w : World) (g o : Nat) (t : Lx.Tk) : Prop :=
 w.cell? ⟨g, o, none⟩ = some (.int .i64 t.kind) ∧ w.cell? ⟨g, o + 1, none⟩ = some (.int .i64 t.pos) ∧ w.cell? ⟨g, o + 2, none⟩ = some (.string ⟨t.text.toArray⟩) ∧ w.cell? ⟨g, o + 3, none⟩ = some (.int .i64 t.num)

def EndAt (w : World) (g o : Nat) (z : Sy.Env) : Prop := ∃ p, TkAt w g o ⟨0, p, [], 0⟩ ∧ (z.fin.1 = 0 → p = z.stop)

def drVals (g n c i : Nat) (f : Nat × Nat) (e d : Nat) : List Value :=
 [.slice (some ⟨g, 0, none⟩) n c, .int .i64 i, .int .i64 f.1, .int .i64 f.2, .int .i64 e, .int .i64 d]

structure Dr (w : World) (b : Nat) (z : Sy.Env) (ts : List Lx.Tk) (e d : Nat) : Prop where
 good : ∀ t ∈ ts, Sy.Gd t ∧ t.num ≤ 9223372036854775807
 cells : ∃ g n c i : Nat, Blk w b (drVals g n c i z.fin e d) ∧ g < b ∧ n = i + ts.length + 1 ∧ n ≤ c ∧ n ≤ 3001 ∧
  (∀ j (h : j < ts.length), TkAt w g ((i + j) * 4) ts[j]) ∧ EndAt w g ((i + ts.length) * 4) z

theorem TkAt.lt {w : World} {g o : Nat} {t : Lx.Tk} (h : TkAt w g o t) : g < w.heap.size := World.block_lt_of_cell? w ⟨g, o, none⟩ h.1
theorem TkAt.of_heap {w w' : World} {g o : Nat} {t : Lx.Tk} (h : TkAt w g o t) (hh : w'.heap[g]? = w.heap[g]?) : TkAt w' g o t := by
 obtain ⟨h0, h1, h2, h3⟩ := h
 exact ⟨(World.cell?_of_block (a := ⟨g, _, none⟩) hh).trans h0, (World.cell?_of_block (a := ⟨g, _, none⟩) hh).trans h1, (World.cell?_of_block (a := ⟨g, _, none⟩) hh).trans h2, (World.cell?_of_block (a := ⟨g, _, none⟩) hh).trans h3⟩
theorem EndAt.lt {w : World} {g o : Nat} {z : Sy.Env} (h : EndAt w g o z) : g < w.heap.size := by
 obtain ⟨p, h1, _⟩ := h
 exact h1.lt
theorem EndAt.of_heap {w w' : World} {g o : Nat} {z : Sy.Env} (h : EndAt w g o z) (hh : w'.heap[g]? = w.heap[g]?) : EndAt w' g o z := by
 obtain ⟨p, h1, h2⟩ := h
 exact ⟨p, h1.of_heap hh, h2⟩
theorem Dr.lt {w : World} {b e d : Nat} {z : Sy.Env} {ts : List Lx.Tk} (h : Dr w b z ts e d) : b < w.heap.size := by
 obtain ⟨g, n, c, i, h1, _⟩ := h.cells
 exact Blk.lt h1
theorem Dr.carry {w w' : World} {b e d : Nat} {z : Sy.Env} {ts : List Lx.Tk} (h : Dr w b z ts e d) (hw : ∀ g, g < w.heap.size → w'.heap[g]? = w.heap[g]?) : Dr w' b z ts e d := by
 have hl := h.lt
 obtain ⟨hg, g, n, c, i, h1, h2, h3, h4, h5, h6, h7⟩ := h
 exact ⟨hg, g, n, c, i, h1.of_heap (hw b hl), h2, h3, h4, h5, fun j hj => (h6 j hj).of_heap (hw g (h6 j hj).lt), h7.of_heap (hw g h7.lt)⟩
theorem Dr.alloc {w : World} {b e d : Nat} {z : Sy.Env} {ts : List Lx.Tk} (h : Dr w b z ts e d) (o : Obj) : Dr (w.alloc o) b z ts e d := h.carry fun _ hg => heap_alloc_old w o hg
theorem Dr.drew {w : World} {b e d : Nat} {z : Sy.Env} {ts : List Lx.Tk} (h : Dr w b z ts e d) : Dr w.drew b z ts e d := h.carry fun _ _ => rfl
theorem Dr.below {w w' : World} {b e d : Nat} {z : Sy.Env} {ts : List Lx.Tk} (h : Dr w b z ts e d) (hb : Below w.heap.size w w') : Dr w' b z ts e d := h.carry fun g hg => hb.block g hg

theorem Dr.other {w : World} {b e d R : Nat} {z : Sy.Env} {ts : List Lx.Tk} (h : Dr w b z ts e d) (hR : b < R) (k : Nat) (v : Value) : Dr (w.setCell ⟨R, k, none⟩ v) b z ts e d := by
 obtain ⟨hg, g, n, c, i, h1, h2, h3, h4, h5, h6, h7⟩ := h
 have hh : (w.setCell ⟨R, k, none⟩ v).heap[g]? = w.heap[g]? := Below.heap_setCell _ _ _ _ (show g ≠ R by omega)
 exact ⟨hg, g, n, c, i, h1.of_heap (Below.heap_setCell _ _ _ _ (show b ≠ R by omega)), h2, h3, h4, h5, fun j hj => (h6 j hj).of_heap hh, h7.of_heap hh⟩

def refV (f : Nat × Nat) : Value := .iface 35 (.agg #[.int .i64 f.1, .int .i64 f.2])
def Refuses (f : Nat × Nat) (en : Ending) : Prop := en = .panicked [{ v := refV f, recovered := false }]
def tkV (t : Lx.Tk) : Value := .agg #[.int .i64 t.kind, .int .i64 t.pos, .string ⟨t.text.toArray⟩, .int .i64 t.num]

def BRes {α : Type} (enc : α → Value) (w : World) (b : Nat) (z : Sy.Env) (x : Sy.R α) (e d : Nat) (en : Ending) (w' : World) : Prop :=
 match x with
 | .ok (a, ts) => en = .returned (enc a) ∧ Hid (Dr w' b z ts e d) ∧ Hid (Kp b w w')
 | .error f => Refuses f en ∧ Hid (Kp b w w')

theorem look_raw (w : World) (b g n c i : Nat) (f : Nat × Nat) (e d : Nat) (u : Lx.Tk) (hb : Blk w b (drVals g n c i f e d)) (hin : i < n) (ht : TkAt w g (i * 4) u) (cnd : Nat)
  (hcnd : (cnd = 0 ∧ u.kind ≠ 0) ∨ (cnd = 1 ∧ u.kind = 0 ∧ f.1 = 0) ∨ (cnd = 2 ∧ u.kind = 0 ∧ f.1 ≠ 0)) :
  Calls Tryz.prog 59 #[.pointer (some ⟨b, 0, none⟩)] w fun en w' => (if cnd = 2 then Refuses f en else en = .returned (tkV u)) ∧ Hid (Below w.heap.size w w') := by
 have b0 := (hb 0 _ rfl).1
 have b1 := (hb 1 _ rfl).1
 have b2 := (hb 2 _ rfl).1
 have b3 := (hb 3 _ rfl).1
 have hbl := hb.lt
 have hgl := ht.lt
 have HB0 := hid b0
 have HB1 := hid b1
 obtain ⟨e0, e1, e2, e3⟩ := ht
 have hi1 : (i : Int) < n := by omega
 have hi2 : ¬ (i : Int) < 0 := by omega
 have hg0 : ¬ g = w.heap.size := by omega
 have hg1 : ¬ g = w.heap.size + 1 := by omega
 have hb0 : ¬ b = w.heap.size := by omega
 have hb1 : ¬ b = w.heap.size + 1 := by omega
 clear hb
 rcases hcnd with ⟨rfl, hk⟩ | ⟨rfl, hk, hf⟩ | ⟨rfl, hk, hf⟩
 ·have hkd : decide ((u.kind : Int) = 0) = false := by simp; omega
  have hkb : ((u.kind : Int) == 0) = false := by simp; omega
  go_enter Tryz.func59, Tryz.ntmps59
  go_wp2
  go_region_held3 (fun w' => w'.cell? ⟨b, 0, none⟩ = some (.slice (some ⟨g, 0, none⟩) n c) ∧ w'.cell? ⟨b, 1, none⟩ = some (.int .i64 i) ∧ w'.cell? ⟨g, i * 4, none⟩ = some (.int .i64 u.kind) ∧ w'.cell? ⟨g, i * 4 + 1, none⟩ = some (.int .i64 u.pos) ∧ w'.cell? ⟨g, i * 4 + 2, none⟩ = some (.string ⟨u.text.toArray⟩) ∧ w'.cell? ⟨g, i * 4 + 3, none⟩ = some (.int .i64 u.num)) (go_keep) (fail)
  all_goals go_wp2
  all_goals
   refine bodyPost_ret (v := tkV u) (by simp [results, Tryz.results59, go_sem, tkV]) rfl ⟨rfl, hid ?_⟩
   repeat (with_reducible (first | exact Below.refl _ _ | apply Below.drew | refine Below.alloc ?_ (by simp) _))
 ·have hkd : decide ((u.kind : Int) = 0) = true := by simp; omega
  have hkb : ((u.kind : Int) == 0) = true := by simp; omega
  have hfb : ((f.1 : Int) != 0) = false := by simp; omega
  go_enter Tryz.func59, Tryz.ntmps59
  go_wp2
  go_region_held3 (fun w' => w'.cell? ⟨b, 0, none⟩ = some (.slice (some ⟨g, 0, none⟩) n c) ∧ w'.cell? ⟨b, 1, none⟩ = some (.int .i64 i) ∧ w'.cell? ⟨g, i * 4, none⟩ = some (.int .i64 u.kind) ∧ w'.cell? ⟨g, i * 4 + 1, none⟩ = some (.int .i64 u.pos) ∧ w'.cell? ⟨g, i * 4 + 2, none⟩ = some (.string ⟨u.text.toArray⟩) ∧ w'.cell? ⟨g, i * 4 + 3, none⟩ = some (.int .i64 u.num)) (go_keep) (fail)
  all_goals go_wp2
  all_goals
   refine bodyPost_ret (v := tkV u) (by simp [results, Tryz.results59, go_sem, tkV, hk]) rfl ⟨rfl, hid ?_⟩
   repeat (with_reducible (first | exact Below.refl _ _ | apply Below.drew | refine Below.alloc ?_ (by simp) _))
 ·have hkd : decide ((u.kind : Int) = 0) = true := by simp; omega
  have hkb : ((u.kind : Int) == 0) = true := by simp; omega
  have hfb : ((f.1 : Int) != 0) = true := by simp; omega
  go_enter Tryz.func59, Tryz.ntmps59
  go_wp2
  go_region_held3 (fun w' => w'.cell? ⟨b, 0, none⟩ = some (.slice (some ⟨g, 0, none⟩) n c) ∧ w'.cell? ⟨b, 1, none⟩ = some (.int .i64 i) ∧ w'.cell? ⟨g, i * 4, none⟩ = some (.int .i64 u.kind) ∧ w'.cell? ⟨g, i * 4 + 1, none⟩ = some (.int .i64 u.pos) ∧ w'.cell? ⟨g, i * 4 + 2, none⟩ = some (.string ⟨u.text.toArray⟩) ∧ w'.cell? ⟨g, i * 4 + 3, none⟩ = some (.int .i64 u.num)) (go_keep) (fail)
  all_goals go_wp2
  all_goals
   refine ⟨rfl, rfl, hid ?_⟩
   repeat (with_reducible (first | exact Below.refl _ _ | apply Below.drew | refine Below.alloc ?_ (by simp) _))

theorem Kp.of_below {b : Nat} {w w' : World} (h : Below w.heap.size w w') : Kp b w w' := ⟨h.os, h.tape, h.output, h.size, fun i hi _ => h.block i hi⟩
theorem look_ok {z : Sy.Env} {t : Lx.Tk} {ts us : List Lx.Tk} (h : Sy.lookB z ts = .ok (t, us)) : us = ts ∧ (t = ts.headD (Sy.endTk z)) := by
 cases ts with
 | nil =>
  simp only [Sy.lookB] at h
  by_cases hz : z.fin.1 = 0
  ·rw [if_pos hz] at h; cases h; exact ⟨rfl, rfl⟩
  ·rw [if_neg hz] at h; cases h
 | cons a r => cases h; exact ⟨rfl, rfl⟩
theorem gd_kind {t : Lx.Tk} (h : Sy.Gd t) : t.kind ≠ 0 := by
 rcases h with h | h | h | h
 ·rw [h.1]; decide
 ·rw [h.1]; decide
 ·rw [h]; decide
 ·rw [h]; decide

theorem dlook (w : World) (b : Nat) (z : Sy.Env) (ts : List Lx.Tk) (e d : Nat) (h : Dr w b z ts e d) :
  Calls Tryz.prog 59 #[.pointer (some ⟨b, 0, none⟩)] w fun en w' => BRes tkV w b z (Sy.lookB z ts) e d en w' := by
 have H := h
 obtain ⟨hg, g, n, c, i, hb, hne, hn, hc, hn3, ht, he⟩ := h
 cases ts with
 | nil =>
  simp only [List.length_nil, Nat.add_zero] at he hn
  obtain ⟨pe, he1, he2⟩ := he
  by_cases hz : z.fin.1 = 0
  ·refine (look_raw w b g n c i z.fin e d ⟨0, pe, [], 0⟩ hb (by omega) he1 1 (.inr (.inl ⟨rfl, rfl, hz⟩))).mono ?_
   rintro en w' ⟨h1, h2⟩
   simp only [Sy.lookB, if_pos hz]
   have hpe : (⟨0, pe, [], 0⟩ : Lx.Tk) = Sy.endTk z := by rw [he2 hz]; rfl
   rw [hpe] at h1
   exact ⟨h1, H.below h2.out, Kp.of_below h2.out⟩
  ·refine (look_raw w b g n c i z.fin e d ⟨0, pe, [], 0⟩ hb (by omega) he1 2 (.inr (.inr ⟨rfl, rfl, hz⟩))).mono ?_
   rintro en w' ⟨h1, h2⟩
   simp only [Sy.lookB, if_neg hz]
   exact ⟨h1, Kp.of_below h2.out⟩
 | cons t r =>
  have h0 := ht 0 (by simp)
  simp only [Nat.add_zero, List.getElem_cons_zero] at h0
  refine (look_raw w b g n c i z.fin e d t hb (by omega) h0 0 (.inl ⟨rfl, gd_kind (hg t (by simp)).1⟩)).mono ?_
  rintro en w' ⟨h1, h2⟩
  exact ⟨h1, H.below h2.out, Kp.of_below h2.out⟩

theorem dlook_b (w : World) (b : Nat) (z : Sy.Env) (t : Lx.Tk) (ts : List Lx.Tk) (e d : Nat) (h : Dr w b z (t :: ts) e d) :
  Calls Tryz.prog 59 #[.pointer (some ⟨b, 0, none⟩)] w fun en w' => en = .returned (tkV t) ∧ Hid (Below w.heap.size w w') := by
 obtain ⟨hg, g, n, c, i, hb, hne, hn, hc, hn3, ht, he⟩ := h
 have h0 := ht 0 (by simp)
 simp only [Nat.add_zero, List.getElem_cons_zero] at h0
 exact look_raw w b g n c i z.fin e d t hb (by omega) h0 0 (.inl ⟨rfl, gd_kind (hg t (by simp)).1⟩)

theorem BRes.yes {α : Type} {enc : α → Value} {w : World} {b : Nat} {z : Sy.Env} {x : Sy.R α} {e d : Nat} {en : Ending} {w' : World} (h : BRes enc w b z x e d en w') {a : α} {ts : List Lx.Tk} (hx : x = .ok (a, ts)) :
  en = .returned (enc a) ∧ Hid (Dr w' b z ts e d) ∧ Hid (Kp b w w') := by subst hx; exact h
theorem BRes.no {α : Type} {enc : α → Value} {w : World} {b : Nat} {z : Sy.Env} {x : Sy.R α} {e d : Nat} {en : Ending} {w' : World} (h : BRes enc w b z x e d en w') {f : Nat × Nat} (hx : x = .error f) :
  en = .panicked [{ v := refV f, recovered := false }] ∧ Hid (Kp b w w') := by subst hx; exact h
theorem BRes.ok_ {α : Type} {enc : α → Value} {w : World} {b : Nat} {z : Sy.Env} {x : Sy.R α} {e d : Nat} {w' : World} {a : α} {ts : List Lx.Tk} (hx : x = .ok (a, ts)) (h1 : Dr w' b z ts e d) (h2 : Kp b w w') : BRes enc w b z x e d (.returned (enc a)) w' := by
 subst hx; exact ⟨rfl, h1, h2⟩
theorem BRes.err {α : Type} {enc : α → Value} {w : World} {b : Nat} {z : Sy.Env} {x : Sy.R α} {e d : Nat} {w' : World} {f : Nat × Nat} (hx : x = .error f) (h2 : Kp b w w') : BRes enc w b z x e d (.panicked [{ v := refV f, recovered := false }]) w' := by
 subst hx; exact ⟨rfl, h2⟩

open Go.RowKit

namespace Sy
def seesB (z : Env) (x : List UInt8) (ts : List Lx.Tk) : R Bool := bnd (lookB z ts) fun t ts => .ok (t.text == x, ts)
def takesB (z : Env) (x : List UInt8) (ts : List Lx.Tk) : R Bool := bnd (lookB z ts) fun t _ => if t.text == x then .ok (true, ts.tail) else .ok (false, ts)
def wrongF (z : Env) (ts : List Lx.Tk) : Nat × Nat := match lookB z ts with | .ok (t, _) => (4, t.pos) | .error f => f
theorem iteB_takes {α : Type} (z : Env) (x : List UInt8) (ts : List Lx.Tk) (y n : List Lx.Tk → R α) : iteB z x ts y n = bnd (takesB z x ts) fun v us => if v then y us else n us := by
 unfold iteB takesB
 cases lookB z ts with
 | error f => rfl
 | ok q =>
  simp only [bnd]
  split <;> simp_all
end Sy

theorem dr_next {w : World} {b e d g n c i R : Nat} {z : Sy.Env} {t : Lx.Tk} {ts : List Lx.Tk} (hgd : ∀ x ∈ t :: ts, Sy.Gd x ∧ x.num ≤ 9223372036854775807) (hb : Blk w b (drVals g n c i z.fin e d)) (hne : g < b) (hn : n = i + (t :: ts).length + 1) (hc : n ≤ c) (hn3 : n ≤ 3001)
  (ht : ∀ j (h : j < (t :: ts).length), TkAt w g ((i + j) * 4) (t :: ts)[j]) (he : EndAt w g ((i + (t :: ts).length) * 4) z)
  (hR : b ≠ R) (hgR : g ≠ R) {v0 v1 v2 v3 : Value} : Dr (((((w.setCell ⟨b, 1, none⟩ (.int .i64 (i + 1))).setCell ⟨R, 0, none⟩ v0).setCell ⟨R, 1, none⟩ v1).setCell ⟨R, 2, none⟩ v2).setCell ⟨R, 3, none⟩ v3) b z ts e d := by
 have hh : ∀ (W : World) (k : Nat), k ≠ R → ((((W.setCell ⟨R, 0, none⟩ v0).setCell ⟨R, 1, none⟩ v1).setCell ⟨R, 2, none⟩ v2).setCell ⟨R, 3, none⟩ v3).heap[k]? = W.heap[k]? := by
  intro W k hk
  rw [Below.heap_setCell _ _ _ _ hk, Below.heap_setCell _ _ _ _ hk, Below.heap_setCell _ _ _ _ hk, Below.heap_setCell _ _ _ _ hk]
 have hg2 : ∀ (v : Value), (((((w.setCell ⟨b, 1, none⟩ v).setCell ⟨R, 0, none⟩ v0).setCell ⟨R, 1, none⟩ v1).setCell ⟨R, 2, none⟩ v2).setCell ⟨R, 3, none⟩ v3).heap[g]? = w.heap[g]? := fun v => by
  rw [hh _ _ hgR, Below.heap_setCell _ _ _ _ (show g ≠ b by omega)]
 have hb2 := hb.set 1 (by simp [drVals]) (.int .i64 ((i + 1 : Nat) : Int))
 simp only [drVals, List.set_cons_succ, List.set_cons_zero] at hb2
 refine ⟨fun x hx => hgd x (List.mem_cons_of_mem _ hx), g, n, c, i + 1, ?_, hne, by simp only [List.length_cons] at hn; omega, hc, hn3, ?_, ?_⟩
 ·exact hb2.of_heap (hh _ _ hR)
 ·intro j hj
  have := ht (j + 1) (by simp; omega)
  rw [show i + (j + 1) = i + 1 + j by omega] at this
  exact this.of_heap (hg2 _)
 ·rw [show i + (t :: ts).length = i + 1 + ts.length by simp; omega] at he
  exact he.of_heap (hg2 _)

theorem fld_tk (a0 a1 a2 a3 : Value) :
  (∀ w, (Instr.field 41 (.agg #[a0, a1, a2, a3]) 0).run Tryz.prog w = .ok a0 w) ∧ (∀ w, (Instr.field 41 (.agg #[a0, a1, a2, a3]) 1).run Tryz.prog w = .ok a1 w) ∧
  (∀ w, (Instr.field 41 (.agg #[a0, a1, a2, a3]) 2).run Tryz.prog w = .ok a2 w) ∧ (∀ w, (Instr.field 41 (.agg #[a0, a1, a2, a3]) 3).run Tryz.prog w = .ok a3 w) :=
 ⟨fun _ => by simp [Instr.field, asAgg, go_sem], fun _ => by simp [Instr.field, asAgg, go_sem], fun _ => by simp [Instr.field, asAgg, go_sem], fun _ => by simp [Instr.field, asAgg, go_sem]⟩

theorem dsees (w : World) (b : Nat) (z : Sy.Env) (ts : List Lx.Tk) (e d : Nat) (x : List UInt8) (h : Dr w b z ts e d) :
  Calls Tryz.prog 30 #[.pointer (some ⟨b, 0, none⟩), .string ⟨x.toArray⟩] w fun en w' => BRes .bool w b z (Sy.seesB z x ts) e d en w' := by
 have H := hid h
 clear h
 rcases hl : Sy.lookB z ts with f | ⟨t, us⟩
 ·have HX : Hid (Sy.seesB z x ts = .error f) := by simp [Hid, Sy.seesB, Sy.bnd, hl]
  have HL := hid hl
  clear hl
  go_enter Tryz.func30, Tryz.ntmps30
  go_wp2_with (go_at_call 59; refine (dlook _ b z ts e d H.out).mono ?_; intro en w1 HD; obtain ⟨rfl, HK⟩ := HD.no HL.out)
  exact ⟨rfl, BRes.err HX.out HK.out⟩
 ·obtain ⟨hf0, hf1, hf2, hf3⟩ := fld_tk (.int .i64 t.kind) (.int .i64 t.pos) (.string ⟨t.text.toArray⟩) (.int .i64 t.num)
  have HX : Hid (Sy.seesB z x ts = .ok (t.text == x, us)) := by simp [Hid, Sy.seesB, Sy.bnd, hl]
  have HL := hid hl
  clear hl
  go_enter Tryz.func30, Tryz.ntmps30
  go_wp2_with (go_at_call 59; refine (dlook _ b z ts e d H.out).mono ?_; intro en w1 HD; obtain ⟨rfl, HR, HK⟩ := HD.yes HL.out; dsimp only [tkV])
  refine bodyPost_ret (v := .bool (t.text == x)) (by simp [results, Tryz.results30, go_sem]) rfl ?_
  obtain ⟨rfl, _⟩ := look_ok HL.out
  exact BRes.ok_ HX.out HR.out HK.out

theorem dwrong (w : World) (b : Nat) (z : Sy.Env) (ts : List Lx.Tk) (e d : Nat) (h : Dr w b z ts e d) :
  Calls Tryz.prog 66 #[.pointer (some ⟨b, 0, none⟩)] w fun en w' => Refuses (Sy.wrongF z ts) en ∧ Hid (Kp b w w') := by
 have H := hid h
 clear h
 rcases hl : Sy.lookB z ts with f | ⟨t, us⟩
 ·have HX : Hid (Sy.wrongF z ts = f) := by simp [Hid, Sy.wrongF, hl]
  have HL := hid hl
  clear hl
  go_enter Tryz.func66, Tryz.ntmps66
  go_wp2_with (go_at_call 59; refine (dlook _ b z ts e d H.out).mono ?_; intro en w1 HD; obtain ⟨rfl, HK⟩ := HD.no HL.out)
  exact ⟨rfl, by rw [HX.out]; rfl, HK⟩
 ·obtain ⟨hf0, hf1, hf2, hf3⟩ := fld_tk (.int .i64 t.kind) (.int .i64 t.pos) (.string ⟨t.text.toArray⟩) (.int .i64 t.num)
  have HX : Hid (Sy.wrongF z ts = (4, t.pos)) := by simp [Hid, Sy.wrongF, hl]
  have HL := hid hl
  clear hl
  go_enter Tryz.func66, Tryz.ntmps66
  go_wp2_with (go_at_call 59; refine (dlook _ b z ts e d H.out).mono ?_; intro en w1 HD; obtain ⟨rfl, HR, HK⟩ := HD.yes HL.out; dsimp only [tkV])
  exact ⟨rfl, by rw [HX.out]; rfl, HK⟩

theorem dtake (w : World) (b : Nat) (z : Sy.Env) (t : Lx.Tk) (ts : List Lx.Tk) (e d : Nat) (h : Dr w b z (t :: ts) e d) :
  Calls Tryz.prog 60 #[.pointer (some ⟨b, 0, none⟩)] w fun en w' => BRes tkV w b z (.ok (t, ts)) e d en w' := by
 have H := hid h
 have hlt := h.lt
 obtain ⟨hg, g, n, c, i, hb, hne, hn, hc, hn3, ht, he⟩ := h
 have hgl := he.lt
 have HB := hid hb
 have HT := hid ht
 have HE := hid he
 have HG := hid hg
 have hnr : ¬ w.heap.size = b := by omega
 clear hb ht he hg
 go_enter Tryz.func60, Tryz.ntmps60
 go_wp2_with (go_at_call 59; refine (dlook_b _ b z t ts e d (H.out.alloc _)).mono ?_; rintro en w1 ⟨rfl, HK⟩; dsimp only [tkV]; have hzz := HK.out.size; simp [Nat.add_one_le_iff] at hzz; have HBR := hid ((HB.out.alloc _).past HK.out); have b1 := HBR.out 1 _ rfl; have hn1 : ¬ b = w1.heap.size := (by omega); have HBK := hid ((Blk.new _ [_, _, _, _] _).past HK.out); obtain ⟨q0, q1, q2, q3, q4, q5, q6, q7⟩ := blk4 HBK.out; have hn5 : ¬ w.heap.size = w1.heap.size := (by omega); have hl1 : b < w1.heap.size := (by omega))
 refine bodyPost_ret (v := tkV t) (by simp [results, Tryz.results60, go_sem, tkV, q0, q1, q2, q3, hzz]) rfl ?_
 have hh : ∀ k, k < w.heap.size → w1.heap[k]? = w.heap[k]? := fun k hk => (HK.out.block k (by simp; omega)).trans (heap_alloc_old w _ hk)
 refine BRes.ok_ rfl (Dr.alloc (dr_next HG.out HBR.out hne hn hc hn3 (fun j hj => (HT.out j hj).of_heap (hh g hgl)) (HE.out.of_heap (hh g hgl)) (by omega) (by omega)) _) ?_
 have HKW : Kp b w w1 := Kp.below ((Kp.refl b w).alloc _) HK.out
 exact (((((HKW.set 1 _).other (Nat.le_refl _) _ _).other (Nat.le_refl _) _ _).other (Nat.le_refl _) _ _).other (Nat.le_refl _) _ _).alloc _

open Go.RowKit

theorem dr_inc {w : World} {b e d g n c i : Nat} {z : Sy.Env} {t : Lx.Tk} {ts : List Lx.Tk} (hgd : ∀ x ∈ t :: ts, Sy.Gd x ∧ x.num ≤ 9223372036854775807) (hb : Blk w b (drVals g n c i z.fin e d)) (hne : g < b) (hn : n = i + (t :: ts).length + 1) (hc : n ≤ c) (hn3 : n ≤ 3001)
  (ht : ∀ j (h : j < (t :: ts).length), TkAt w g ((i + j) * 4) (t :: ts)[j]) (he : EndAt w g ((i + (t :: ts).length) * 4) z) : Dr (w.setCell ⟨b, 1, none⟩ (.int .i64 (i + 1))) b z ts e d := by
 have hg2 : ∀ (v : Value), (w.setCell ⟨b, 1, none⟩ v).heap[g]? = w.heap[g]? := fun v => Below.heap_setCell _ _ _ _ (show g ≠ b by omega)
 have hb2 := hb.set 1 (by simp [drVals]) (.int .i64 ((i + 1 : Nat) : Int))
 simp only [drVals, List.set_cons_succ, List.set_cons_zero] at hb2
 refine ⟨fun x hx => hgd x (List.mem_cons_of_mem _ hx), g, n, c, i + 1, hb2, hne, by simp only [List.length_cons] at hn; omega, hc, hn3, ?_, ?_⟩
 ·intro j hj
  have := ht (j + 1) (by simp; omega)
  rw [show i + (j + 1) = i + 1 + j by omega] at this
  exact this.of_heap (hg2 _)
 ·rw [show i + (t :: ts).length = i + 1 + ts.length by simp; omega] at he
  exact he.of_heap (hg2 _)

theorem look_some {z : Sy.Env} {t : Lx.Tk} {ts us : List Lx.Tk} (h : Sy.lookB z ts = .ok (t, us)) (hx : t.text ≠ [] ∨ t.kind ≠ 0) : ts = t :: ts.tail := by
 obtain ⟨_, h2⟩ := look_ok h
 cases ts with
 | nil =>
  subst h2
  rcases hx with hx | hx
  ·exact absurd rfl hx
  ·exact absurd rfl hx
 | cons a r => subst h2; rfl

theorem dtakes (w : World) (b : Nat) (z : Sy.Env) (ts : List Lx.Tk) (e d : Nat) (x : List UInt8) (hx : x ≠ []) (h : Dr w b z ts e d) :
  Calls Tryz.prog 61 #[.pointer (some ⟨b, 0, none⟩), .string ⟨x.toArray⟩] w fun en w' => BRes .bool w b z (Sy.takesB z x ts) e d en w' := by
 have H := hid h
 clear h
 rcases hl : Sy.lookB z ts with f | ⟨t, us⟩
 ·have HX : Hid (Sy.takesB z x ts = .error f) := by simp [Hid, Sy.takesB, Sy.bnd, hl]
  have HS : Hid (Sy.seesB z x ts = .error f) := by simp [Hid, Sy.seesB, Sy.bnd, hl]
  clear hl
  go_enter Tryz.func61, Tryz.ntmps61
  go_wp2_with (go_at_call 30; refine (dsees _ b z ts e d x H.out).mono ?_; intro en w1 HD; obtain ⟨rfl, HK⟩ := HD.no HS.out)
  exact ⟨rfl, BRes.err HX.out HK.out⟩
 ·cases hv : (t.text == x) with
  | false =>
   have HX : Hid (Sy.takesB z x ts = .ok (false, ts)) := by simp [Hid, Sy.takesB, Sy.bnd, hl, hv]
   have HS : Hid (Sy.seesB z x ts = .ok (false, us)) := by simp [Hid, Sy.seesB, Sy.bnd, hl, hv]
   obtain ⟨rfl, _⟩ := look_ok hl
   clear hl
   go_enter Tryz.func61, Tryz.ntmps61
   go_wp2_with (go_at_call 30; refine (dsees _ b z us e d x H.out).mono ?_; intro en w1 HD; obtain ⟨rfl, HR, HK⟩ := HD.yes HS.out)
   refine bodyPost_ret (v := .bool false) (by simp [results, Tryz.results61, go_sem]) rfl ?_
   exact BRes.ok_ HX.out HR.out HK.out
  | true =>
   have hts := look_some hl (.inl (by have : t.text = x := by simpa using hv
                                      rw [this]; exact hx))
   have HX : Hid (Sy.takesB z x ts = .ok (true, ts.tail)) := by simp [Hid, Sy.takesB, Sy.bnd, hl, hv]
   have HS : Hid (Sy.seesB z x ts = .ok (true, us)) := by simp [Hid, Sy.seesB, Sy.bnd, hl, hv]
   obtain ⟨rfl, _⟩ := look_ok hl
   have HTS := hid hts
   clear hl hts
   go_enter Tryz.func61, Tryz.ntmps61
   go_wp2_with (go_at_call 30; refine (dsees _ b z us e d x H.out).mono ?_; intro en w1 HD; obtain ⟨rfl, HR, HK⟩ := HD.yes HS.out; obtain ⟨hg, g, n, c, i, hb, hne, hn, hc, hn3, ht, he⟩ := HR.out; have HB := hid hb; have HT := hid ht; have HE := hid he; have HG := hid hg; have b1 := hb 1 _ rfl; have hl1 := hb.lt; clear hb ht he hg)
   refine bodyPost_ret (v := .bool true) (by simp [results, Tryz.results61, go_sem]) rfl ?_
   refine BRes.ok_ HX.out ?_ (HK.out.set 1 _)
   have e1 := HTS.out
   generalize us.tail = r at *
   subst e1
   exact dr_inc HG.out HB.out hne hn hc hn3 HT.out HE.out

theorem dneed (w : World) (b : Nat) (z : Sy.Env) (ts : List Lx.Tk) (e d : Nat) (x : List UInt8) (hx : x ≠ []) (h : Dr w b z ts e d) :
  Calls Tryz.prog 33 #[.pointer (some ⟨b, 0, none⟩), .string ⟨x.toArray⟩] w fun en w' => BRes (fun _ => .tuple #[]) w b z (Sy.needB z x ts) e d en w' := by
 have H := hid h
 clear h
 rcases hl : Sy.lookB z ts with f | ⟨t, us⟩
 ·have HX : Hid (Sy.needB z x ts = .error f) := by simp [Hid, Sy.needB, Sy.bnd, hl]
  have HS : Hid (Sy.takesB z x ts = .error f) := by simp [Hid, Sy.takesB, Sy.bnd, hl]
  clear hl
  go_enter Tryz.func33, Tryz.ntmps33
  go_wp2_with (go_at_call 61; refine (dtakes _ b z ts e d x hx H.out).mono ?_; intro en w1 HD; obtain ⟨rfl, HK⟩ := HD.no HS.out)
  exact ⟨rfl, BRes.err HX.out HK.out⟩
 ·cases hv : (t.text == x) with
  | false =>
   have HX : Hid (Sy.needB z x ts = .error (4, t.pos)) := by simp [Hid, Sy.needB, Sy.bnd, hl, hv]
   have HS : Hid (Sy.takesB z x ts = .ok (false, ts)) := by simp [Hid, Sy.takesB, Sy.bnd, hl, hv]
   have HW : Hid (Sy.wrongF z ts = (4, t.pos)) := by simp [Hid, Sy.wrongF, hl]
   clear hl
   go_enter Tryz.func33, Tryz.ntmps33
   go_wp2_with (first | (go_at_call 61; refine (dtakes _ b z ts e d x hx H.out).mono ?_; intro en w1 HD; obtain ⟨rfl, HR, HK⟩ := HD.yes HS.out) | (go_at_call 66; refine (dwrong _ b z ts e d HR.out).mono ?_; rintro en w2 ⟨rfl, HK2⟩; rw [HW.out]))
   exact ⟨rfl, BRes.err HX.out (HK.out.trans HK2.out)⟩
  | true =>
   have HX : Hid (Sy.needB z x ts = .ok ((), ts.tail)) := by simp [Hid, Sy.needB, Sy.bnd, hl, hv]
   have HS : Hid (Sy.takesB z x ts = .ok (true, ts.tail)) := by simp [Hid, Sy.takesB, Sy.bnd, hl, hv]
   clear hl
   go_enter Tryz.func33, Tryz.ntmps33
   go_wp2_with (go_at_call 61; refine (dtakes _ b z ts e d x hx H.out).mono ?_; intro en w1 HD; obtain ⟨rfl, HR, HK⟩ := HD.yes HS.out)
   first
    | go_end0
    | refine bodyPost_ret (results_none rfl _ _ _) rfl ?_
   exact BRes.ok_ (a := ()) HX.out HR.out HK.out

theorem dneedKind (w : World) (b : Nat) (z : Sy.Env) (ts : List Lx.Tk) (e d : Nat) (k : Nat) (hk0 : k ≠ 0) (h : Dr w b z ts e d) :
  Calls Tryz.prog 35 #[.pointer (some ⟨b, 0, none⟩), .int .i64 k] w fun en w' => BRes tkV w b z (Sy.kindB z k ts) e d en w' := by
 have H := hid h
 clear h
 rcases hl : Sy.lookB z ts with f | ⟨t, us⟩
 ·have HX : Hid (Sy.kindB z k ts = .error f) := by simp [Hid, Sy.kindB, Sy.bnd, hl]
  have HL := hid hl
  clear hl
  go_enter Tryz.func35, Tryz.ntmps35
  go_wp2_with (go_at_call 59; refine (dlook _ b z ts e d (H.out.alloc _)).mono ?_; intro en w1 HD; obtain ⟨rfl, HK⟩ := HD.no HL.out)
  exact ⟨rfl, BRes.err HX.out (Kp.trans ((Kp.refl b w).alloc _) HK.out)⟩
 ·obtain ⟨hf0, hf1, hf2, hf3⟩ := fld_tk (.int .i64 t.kind) (.int .i64 t.pos) (.string ⟨t.text.toArray⟩) (.int .i64 t.num)
  by_cases hv : t.kind = k
  ·have hts := look_some hl (.inr (by rw [hv]; exact hk0))
   have HX : Hid (Sy.kindB z k ts = .ok (t, ts.tail)) := by simp [Hid, Sy.kindB, Sy.bnd, hl, hv]
   have hvb : ((t.kind : Int) != k) = false := by simp [hv]
   have HL := hid hl
   have HTS := hid hts
   have hne := H.out.lt
   clear hl hts hv
   go_enter Tryz.func35, Tryz.ntmps35
   go_wp2_with (first
    | (go_at_call 59; refine (dlook _ b z ts e d (H.out.alloc _)).mono ?_; intro en w1 HD; obtain ⟨rfl, HR, HK⟩ := HD.yes HL.out; dsimp only [tkV]; have HBK := hid ((Blk.new _ [_, _, _, _] _).kp HK.out (by omega)))
    | (go_at_call 60; refine (dtake _ b z t ts.tail e d (by obtain ⟨rfl, _⟩ := look_ok HL.out; rw [← HTS.out]; exact HR.out)).mono ?_; intro en w2 HD2; obtain ⟨rfl, HR2, HK2⟩ := HD2.yes rfl; dsimp only [tkV]; obtain ⟨q0, q1, q2, q3, q4, q5, q6, q7⟩ := blk4 (HBK.out.kp HK2.out (by omega))))
   refine bodyPost_ret (v := tkV t) (by simp [results, Tryz.results35, go_sem, tkV, q0, q1, q2, q3]) rfl ?_
   have hbR : b < w.heap.size := H.out.lt
   have HKW : Kp b w w2 := Kp.trans (Kp.trans ((Kp.refl b w).alloc _) HK.out) HK2.out
   exact BRes.ok_ HX.out ((((HR2.out.other hbR _ _).other hbR _ _).other hbR _ _).other hbR _ _) ((((HKW.other (Nat.le_refl _) _ _).other (Nat.le_refl _) _ _).other (Nat.le_refl _) _ _).other (Nat.le_refl _) _ _)
  ·have HX : Hid (Sy.kindB z k ts = .error (4, t.pos)) := by simp [Hid, Sy.kindB, Sy.bnd, hl, hv]
   have HW : Hid (Sy.wrongF z ts = (4, t.pos)) := by simp [Hid, Sy.wrongF, hl]
   have hvb : ((t.kind : Int) != k) = true := by simp; omega
   have HL := hid hl
   clear hl hv
   go_enter Tryz.func35, Tryz.ntmps35
   go_wp2_with (first
    | (go_at_call 59; refine (dlook _ b z ts e d (H.out.alloc _)).mono ?_; intro en w1 HD; obtain ⟨rfl, HR, HK⟩ := HD.yes HL.out; dsimp only [tkV])
    | (go_at_call 66; refine (dwrong _ b z ts e d (by obtain ⟨rfl, _⟩ := look_ok HL.out; exact HR.out)).mono ?_; rintro en w2 ⟨rfl, HK2⟩; rw [HW.out]))
   exact ⟨rfl, BRes.err HX.out (Kp.trans (Kp.trans ((Kp.refl b w).alloc _) HK.out) HK2.out)⟩
theorem dname (w : World) (b : Nat) (z : Sy.Env) (ts : List Lx.Tk) (e d : Nat) (h : Dr w b z ts e d) :
  Calls Tryz.prog 62 #[.pointer (some ⟨b, 0, none⟩)] w fun en w' => BRes tkV w b z (Sy.kindB z 2 ts) e d en w' := by
 have H := hid h
 have hbR : b < w.heap.size := h.lt
 clear h
 rcases hl : Sy.kindB z 2 ts with f | ⟨t, us⟩
 ·have HL := hid hl
  clear hl
  go_enter Tryz.func62, Tryz.ntmps62
  go_wp2_with (go_at_call 35; refine (dneedKind _ b z ts e d 2 (by decide) (H.out.alloc _)).mono ?_; intro en w1 HD; obtain ⟨rfl, HK⟩ := HD.no HL.out)
  exact ⟨rfl, BRes.err rfl (Kp.trans ((Kp.refl b w).alloc _) HK.out)⟩
 ·have HL := hid hl
  clear hl
  go_enter Tryz.func62, Tryz.ntmps62
  go_wp2_with (go_at_call 35; refine (dneedKind _ b z ts e d 2 (by decide) (H.out.alloc _)).mono ?_; intro en w1 HD; obtain ⟨rfl, HR, HK⟩ := HD.yes HL.out; dsimp only [tkV]; have HBK := hid ((Blk.new _ [_, _, _, _] _).kp HK.out (by omega)); obtain ⟨q0, q1, q2, q3, q4, q5, q6, q7⟩ := blk4 HBK.out)
  refine bodyPost_ret (v := tkV t) (by simp [results, Tryz.results62, go_sem, tkV, q0, q1, q2, q3]) rfl ?_
  have HKW : Kp b w w1 := Kp.trans ((Kp.refl b w).alloc _) HK.out
  exact BRes.ok_ rfl ((((HR.out.other hbR _ _).other hbR _ _).other hbR _ _).other hbR _ _) ((((HKW.other (Nat.le_refl _) _ _).other (Nat.le_refl _) _ _).other (Nat.le_refl _) _ _).other (Nat.le_refl _) _ _)

open Go.RowKit

def DRes (w : World) (b : Nat) (z : Sy.Env) (x : Sy.R Sy.Tr) (e d : Nat) (en : Ending) (w' : World) : Prop :=
 match x with
 | .ok (T, ts) => ∃ a l c, en = .returned (.agg #[.int .i64 T.kind, .int .i64 T.pos, .string ⟨T.name.toArray⟩, .int .i64 T.num, .slice a l c]) ∧ Hid (Kids w' (fun g => w.heap.size ≤ g) (.slice a l c) T.kids) ∧ Hid (Dr w' b z ts e d) ∧ Hid (Kp b w w')
 | .error f => Refuses f en ∧ Hid (Kp b w w')
section
variable {w : World} {b : Nat} {z : Sy.Env} {x : Sy.R Sy.Tr} {e d : Nat} {en : Ending} {w' : World}
theorem DRes.yes (h : DRes w b z x e d en w') {T : Sy.Tr} {ts : List Lx.Tk} (hx : x = .ok (T, ts)) :
  ∃ a l c, en = .returned (.agg #[.int .i64 T.kind, .int .i64 T.pos, .string ⟨T.name.toArray⟩, .int .i64 T.num, .slice a l c]) ∧ Hid (Kids w' (fun g => w.heap.size ≤ g) (.slice a l c) T.kids) ∧ Hid (Dr w' b z ts e d) ∧ Hid (Kp b w w') := by subst hx; exact h
theorem DRes.no (h : DRes w b z x e d en w') {f : Nat × Nat} (hx : x = .error f) : en = .panicked [{ v := refV f, recovered := false }] ∧ Hid (Kp b w w') := by subst hx; exact h
theorem DRes.err {f : Nat × Nat} (hx : x = .error f) (h2 : Kp b w w') : DRes w b z x e d (.panicked [{ v := refV f, recovered := false }]) w' := by subst hx; exact ⟨rfl, h2⟩
theorem DRes.ok_ {T : Sy.Tr} {ts : List Lx.Tk} (hx : x = .ok (T, ts)) {a : Option Addr} {l c lo : Nat} (hk : Kids w' (fun g => lo ≤ g) (.slice a l c) T.kids) (hlo : w.heap.size ≤ lo) (h1 : Dr w' b z ts e d) (h2 : Kp b w w')
  (kk pp nn : Int) (xx : ByteArray) (e1 : kk = T.kind) (e2 : pp = T.pos) (e3 : xx = ⟨T.name.toArray⟩) (e4 : nn = T.num) : DRes w b z x e d (.returned (.agg #[.int .i64 kk, .int .i64 pp, .string xx, .int .i64 nn, .slice a l c])) w' := by
 subst hx e1 e2 e3 e4
 exact ⟨a, l, c, rfl, hk.weak (fun g hg _ => Nat.le_trans hlo hg), h1, h2⟩
end
theorem Dr.sto5 {w : World} {b e d R : Nat} {z : Sy.Env} {ts : List Lx.Tk} (h : Dr w b z ts e d) (hR : b < R) (v0 v1 v2 v3 v4 : Value) : Dr (sto5 w R v0 v1 v2 v3 v4) b z ts e d :=
 ((((h.other hR _ _).other hR _ _).other hR _ _).other hR _ _).other hR _ _
theorem dres_fin {w W : World} {b R lo e d : Nat} {z : Sy.Env} {x : Sy.R Sy.Tr} (T : Sy.Tr) (ts : List Lx.Tk) {a : Option Addr} {l c : Nat} (hk : Kids W (fun g => lo ≤ g) (.slice a l c) T.kids)
  (hr : Dr W b z ts e d) (hkp : Kp b w W) (hx : x = .ok (T, ts)) (hR : R < lo) (hRw : w.heap.size ≤ R) (hb : b < R) (kk pp nn : Int) (xx : ByteArray) (e1 : kk = T.kind) (e2 : pp = T.pos) (e3 : xx = ⟨T.name.toArray⟩) (e4 : nn = T.num) (v0 v1 v2 v3 v4 : Value) :
  DRes w b z x e d (.returned (.agg #[.int .i64 kk, .int .i64 pp, .string xx, .int .i64 nn, .slice a l c])) (sto5 W R v0 v1 v2 v3 v4) :=
 DRes.ok_ hx (lo := lo) (hk.carry (fun g hg _ => sto5_heap _ _ _ _ _ _ _ _ (by omega)) (fun g hg _ => hg)) (by omega) (hr.sto5 hb _ _ _ _ _) (sto5_kp hkp hRw _ _ _ _ _) _ _ _ _ e1 e2 e3 e4

theorem DRes.alloc {w W : World} {b e d : Nat} {z : Sy.Env} {x : Sy.R Sy.Tr} {en : Ending} (h : DRes w b z x e d en W) (o : Obj) : DRes w b z x e d en (W.alloc o) := by
 rcases x with f | ⟨T, ts⟩
 ·exact ⟨h.1, h.2.out.alloc o⟩
 ·obtain ⟨a, l, c, h1, h2, h3, h4⟩ := h
  exact ⟨a, l, c, h1, h2.out.pastF ((Below.refl _ _).alloc (Nat.le_refl _) o), h3.out.alloc o, h4.out.alloc o⟩

structure Jn (w : World) (b : Nat) (z : Sy.Env) (ts : List Lx.Tk) (e d : Nat) (W : World) : Prop where
 one : Blk W w.heap.size [.int .i64 0, .int .i64 0, .string ⟨#[]⟩, .int .i64 0, .slice none 0 0]
 rd : Dr W b z ts e d
 kp : Kp b w W
 size : W.heap.size = w.heap.size + 1
theorem jn1 {w : World} {b e d : Nat} {z : Sy.Env} {ts : List Lx.Tk} (h : Dr w b z ts e d) (t1 : TypeId) :
  ∃ W, w.alloc (.cells #[.int .i64 0, .int .i64 0, .string ⟨#[]⟩, .int .i64 0, .slice none 0 0] t1) = W ∧ Hid (Jn w b z ts e d W) :=
 ⟨_, rfl, Blk.new w [_, _, _, _, _] _, h.alloc _, (Kp.refl b w).alloc _, by simp⟩
theorem jvar_new {w0 w1 : World} {b e d : Nat} {z : Sy.Env} {ts : List Lx.Tk} {T : Sy.Tr} {a : Option Addr} {l c : Nat} (h : Kids w1 (fun g => w0.heap.size ≤ g) (.slice a l c) T.kids) (hr : Dr w1 b z ts e d) (hk : Kp b w0 w1) (ty : TypeId) :
  ∃ W, w1.alloc (.cells #[.int .i64 T.kind, .int .i64 T.pos, .string ⟨T.name.toArray⟩, .int .i64 T.num, .slice a l c] ty) = W ∧ Hid (Vr W w1.heap.size w0.heap.size T a l c) ∧ Hid (Dr W b z ts e d) ∧ Hid (Kp b w0 W) ∧ W.heap.size = w1.heap.size + 1 ∧ w0.heap.size ≤ w1.heap.size :=
 ⟨_, rfl, vr_new h ty, hr.alloc _, hk.alloc _, by simp, hk.size⟩

theorem dnamed (w : World) (b : Nat) (z : Sy.Env) (ts : List Lx.Tk) (e d : Nat) (h : Dr w b z ts e d) :
  Calls Tryz.prog 131 #[.pointer (some ⟨b, 0, none⟩)] w fun en w' => DRes w b z (Sy.namedB z ts) e d en w' := by
 have H := hid h
 have hbR : b < w.heap.size := h.lt
 clear h
 rcases hl : Sy.kindB z 2 ts with f | ⟨t, us⟩
 ·have HX : Hid (Sy.namedB z ts = .error f) := by simp [Hid, Sy.namedB, Sy.bnd, hl]
  have HL := hid hl
  clear hl
  go_enter Tryz.func131, Tryz.ntmps131
  go_wp2_with (go_at_call 62; refine (dname _ b z ts e d (H.out.alloc _)).mono ?_; intro en w1 HD; obtain ⟨rfl, HK⟩ := HD.no HL.out)
  exact ⟨rfl, DRes.err HX.out (Kp.trans ((Kp.refl b w).alloc _) HK.out)⟩
 ·have HX : Hid (Sy.namedB z ts = .ok (Sy.nm 23 t.pos t.text [], us)) := by simp [Hid, Sy.namedB, Sy.bnd, hl]
  have HL := hid hl
  clear hl
  go_enter Tryz.func131, Tryz.ntmps131
  go_wp2_with fail
  obtain ⟨W0, hW0, HI⟩ := jn1 H.out 24
  rw [hW0]
  clear hW0
  have hz0 := HI.out.size
  refine (dname _ b z ts e d HI.out.rd).mono ?_
  intro en w1 HD
  obtain ⟨rfl, HR, HK⟩ := HD.yes HL.out
  dsimp only [tkV]
  have hs1 := HK.out.size
  have HRS := hid (HI.out.one.kp HK.out (by omega))
  obtain ⟨⟨u0, u1, u2, u3, u4⟩, u5, u6, u7, u8, u9⟩ := blk5 HRS.out
  have hl1 : w.heap.size < w1.heap.size := HRS.out.lt
  go_wp2
  refine bodyPost_ret (v := .agg #[.int .i64 23, .int .i64 t.pos, .string ⟨t.text.toArray⟩, .int .i64 0, .slice none 0 0]) (by simp [results, Tryz.results131, go_sem, u0, u1, u2, u3, u4, hl1]) rfl ?_
  refine DRes.alloc ?_ _
  exact dres_fin (lo := W0.heap.size) (Sy.nm 23 t.pos t.text []) us .nil HR.out (HI.out.kp.trans HK.out) HX.out (by omega) (by omega) (by omega) _ _ _ _ rfl rfl rfl rfl _ _ _ _ _

def Two2 (w : World) (F : Nat → Prop) (k : Nat) (T1 T2 : Sy.Tr) (x : List UInt8) (en : Ending) (w' : World) : Prop :=
 ∃ g, en = .returned (.agg #[.int .i64 k, .int .i64 T1.pos, .string ⟨x.toArray⟩, .int .i64 0, .slice (some ⟨g, 0, none⟩) 2 2]) ∧ Hid (Kids w' F (.slice (some ⟨g, 0, none⟩) 2 2) [T1, T2]) ∧ Hid (Below w.heap.size w w')

theorem djoined (w : World) (F : Nat → Prop) (k : Nat) (T1 T2 : Sy.Tr) (x : List UInt8) (a1 a2 : Option Addr) (l1 c1 l2 c2 : Nat) (hF : ∀ g, w.heap.size ≤ g → F g) (h1 : Kids w F (.slice a1 l1 c1) T1.kids) (h2 : Kids w F (.slice a2 l2 c2) T2.kids) :
  Calls Tryz.prog 108 #[.int .i64 k, .string ⟨x.toArray⟩, .agg #[.int .i64 T1.kind, .int .i64 T1.pos, .string ⟨T1.name.toArray⟩, .int .i64 T1.num, .slice a1 l1 c1], .agg #[.int .i64 T2.kind, .int .i64 T2.pos, .string ⟨T2.name.toArray⟩, .int .i64 T2.num, .slice a2 l2 c2]] w
   fun en w' => Two2 w F k T1 T2 x en w' := by
 have HF := hid hF
 have H1 := hid h1
 have H2 := hid h2
 clear hF h1 h2
 go_enter Tryz.func108, Tryz.ntmps108
 go_wp2
 refine bodyPost_ret (v := .agg #[.int .i64 k, .int .i64 T1.pos, .string ⟨x.toArray⟩, .int .i64 0, .slice (some ⟨w.heap.size + 1 + 1 + 1, 0, none⟩) 2 2]) (by simp [results, Tryz.results108, go_sem]) rfl ?_
 refine ⟨_, rfl, hid (kids_newH (w.heap.size + 1 + 1 + 1) (by simp) [(T1, .slice a1 l1 c1), (T2, .slice a2 l2 c2)] (by simp) (HF.out _ (by omega)) ?_ _ rfl 2 rfl (Below.refl _ _)), hid ?_⟩
 ·intro p hp
  simp only [List.mem_cons, List.not_mem_nil, or_false] at hp
  rcases hp with rfl | rfl
  ·exact H1.out.pastF ((((Below.refl _ _).alloc (Nat.le_refl _) _).alloc (by simp) _).alloc (by simp; omega) _)
  ·exact H2.out.pastF ((((Below.refl _ _).alloc (Nat.le_refl _) _).alloc (by simp) _).alloc (by simp; omega) _)
 ·exact ((((Below.refl _ _).alloc (Nat.le_refl _) _).alloc (by simp) _).alloc (by simp; omega) _).alloc (by simp; omega) _

theorem kint2 (t : Lx.Tk) : (t.kind == 2) = ((t.kind : Int) == 2) := by rw [Bool.eq_iff_iff]; simp; omega
theorem kint1 (t : Lx.Tk) : (t.kind == 1) = ((t.kind : Int) == 1) := by rw [Bool.eq_iff_iff]; simp; omega

theorem dbegins (w : World) (t : Lx.Tk) : Calls Tryz.prog 167 #[tkV t] w fun en w' => en = .returned (.bool (Sy.beginsB t)) ∧ Hid (Below w.heap.size w w') := by
 unfold tkV
 go_enter Tryz.func167, Tryz.ntmps167
 go_wp2
 all_goals first
  | (rename_i ha hb
     exact absurd (ha.symm.trans hb) (by decide))
  | (refine bodyPost_ret (v := .bool (Sy.beginsB t)) (by simp [results, Tryz.results167, go_sem, Sy.beginsB, kint1, kint2, Sy.s_tilde, Sy.w_true, Sy.w_false, Sy.s_lp, Sy.s_ls, *]) rfl ⟨rfl, hid ?_⟩
     exact (Below.refl _ _).alloc (Nat.le_refl _) _)
end Go.Proofs.YtoajnlhegallpaaGreatDoor
