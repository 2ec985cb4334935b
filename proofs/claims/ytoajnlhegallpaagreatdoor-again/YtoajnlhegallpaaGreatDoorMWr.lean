/-
  What the document writes of a node: numbers, and what is made of no other things.
  Trees, how the document writes them, and trees in memory; three calls of Write that go on to another function.
  Which trees may be walked: the kinds of a row of nodes.
-/
import Derived.Test.YtoajnlhegallpaaGreatDoorMBa
import Derived.Test.YtoajnlhegallpaaGreatDoorMPa
set_option linter.unusedVariables false
set_option linter.unusedSimpArgs false
set_option maxRecDepth 100000
set_option maxHeartbeats 8000000
namespace Go.Proofs.YtoajnlhegallpaaGreatDoor
open Go.RowKit

theorem dig_len : ∀ (k n : Nat), n < 10 ^ (k + 1) → (Sy.dig n).length ≤ k + 1 := by
 intro k
 induction k with
 | zero => intro n h; rw [Sy.dig, dif_pos (by simpa using h)]; simp
 | succ k ih =>
  intro n h
  rw [Sy.dig]
  by_cases h1 : n < 10
  ·rw [dif_pos h1]; simp
  ·rw [dif_neg h1]
   have := ih (n / 10) (by rw [Nat.pow_succ] at h; omega)
   simp; omega
theorem dig_small {n : Nat} (h : n ≤ 9223372036854775807) : (Sy.dig n).length ≤ 19 := dig_len 18 n (by omega)

open Go.RowKit
open Sy (Tr)

def nodeV (t : Tr) (v : Value) : Value := .agg #[.int .i64 t.kind, .int .i64 t.pos, .string ⟨t.name.toArray⟩, .int .i64 t.num, v]
inductive Ki (w : World) : Value → List Tr → Prop
 | nil (a : Option Addr) (c : Nat) : Ki w (.slice a 0 c) []
 | row (g o c : Nat) (kids : List Tr) (ks : Nat → Value) (h0 : kids ≠ []) (hc : kids.length ≤ c)
   (hcell : ∀ i (h : i < kids.length), Nod w g (o + i * 5) kids[i].kind kids[i].pos ⟨kids[i].name.toArray⟩ kids[i].num (ks i))
   (hk : ∀ i (h : i < kids.length), Ki w (ks i) kids[i].kids) : Ki w (.slice (some ⟨g, o, none⟩) kids.length c) kids
theorem Nod.lt {w : World} {g o : Nat} {k p : Int} {x : ByteArray} {n : Int} {v : Value} (h : Nod w g o k p x n v) : g < w.heap.size := World.block_lt_of_cell? w ⟨g, o, none⟩ h.1
theorem Ki.past {w w' : World} {v : Value} {l : List Tr} (h : Ki w v l) (hb : Below w.heap.size w w') : Ki w' v l := by
 induction h with
 | nil a c => exact .nil a c
 | row g o c kids ks h0 hc hcell hk ih => exact .row g o c kids ks h0 hc (fun i hi => (hcell i hi).past (hcell i hi).lt hb) ih
theorem Ki.slice {w : World} {v : Value} {l : List Tr} (h : Ki w v l) : ∃ a c, v = .slice a l.length c := by
 cases h with
 | nil a c => exact ⟨a, c, rfl⟩
 | row g o c kids ks => exact ⟨_, _, rfl⟩
theorem Ki.cells {w : World} {v : Value} {l : List Tr} (h : Ki w v l) (h0 : l ≠ []) : ∃ (g o c : Nat) (ks : Nat → Value), v = .slice (some ⟨g, o, none⟩) l.length c ∧ l.length ≤ c ∧ g < w.heap.size ∧
  (∀ i (h : i < l.length), Nod w g (o + i * 5) l[i].kind l[i].pos ⟨l[i].name.toArray⟩ l[i].num (ks i)) ∧ ∀ i (h : i < l.length), Ki w (ks i) l[i].kids := by
 cases h with
 | nil a c => exact absurd rfl h0
 | row g o c kids ks _ hc hcell hk => exact ⟨g, o, c, ks, rfl, hc, (hcell 0 (List.length_pos_iff.2 h0)).lt, hcell, hk⟩


open Go.RowKit
open Sy (Tr)

theorem allOf_any (w0 : World) (kd : Int) (sa : Option Addr) (L c : Nat) (_hLc : L ≤ c) (hLb : L ≤ 90000)
  (hN : 0 < L → ∃ g o, sa = some ⟨g, o, none⟩ ∧ g < w0.heap.size ∧ ∀ j, j < L → ∃ (p m : Int) (n : ByteArray) (va : Option Addr) (vl vc : Nat), Nod w0 g (o + j * 5) kd p n m (.slice va vl vc)) :
  ∀ (w : World), Below w0.heap.size w0 w → Calls Tryz.prog 116 #[.slice sa L c, .int .i64 kd] w fun e w' => e = .returned (.bool true) ∧ Hid (Below w.heap.size w w') := by
 intro w hn
 have HNN := hid hN
 have HN0 := hid hn
 clear hN hn
 go_enter Tryz.func116, Tryz.ntmps116
 go_wp2_with fail
 go_loopw [9] (fun v wr => ∃ q : Nat, v = .int .i64 q ∧ q ≤ L ∧ Hid (Below w.heap.size w wr)) (fun v _ => L - (intOf v).toNat)
 case atStart => exact ⟨0, rfl, Nat.zero_le _, Below.refl _ _⟩
 case round =>
  obtain ⟨q, rfl, hq, HB⟩ := hrel
  by_cases hlt : q < L
  ·obtain ⟨g, o, hsa, hg, hcell⟩ := HNN.out (by omega)
   subst hsa
   obtain ⟨p, m, x, va, vl, vc, hnod⟩ := hcell q hlt
   obtain ⟨f0, f1, f2, f3, f4⟩ := Nod.past hnod hg (HN0.out.trans (HB.out.mono HN0.out.size))
   have hgn : ¬ g = wr.heap.size := by have := HB.out.size; have := HN0.out.size; omega
   clear hcell hnod
   have hqi : (q : Int) < (L : Int) := by omega
   go_upto_region 4 with fail
   obtain ⟨X, hX⟩ : ∃ X, X = wr.alloc (.cells #[.int .i64 kd, .int .i64 p, .string x, .int .i64 m, .slice va vl vc] 24) := ⟨_, rfl⟩
   rw [← hX]
   have HX : Hid (Below w.heap.size w X) := by rw [hX]; exact HB.out.alloc HB.out.size _
   have c0 : X.cell? ⟨wr.heap.size, 0, none⟩ = some (.int .i64 kd) := by rw [hX]; simp [go_sem]
   clear hX f0 f1 f2 f3 f4
   go_wp2_with fail
   go_roundw
   case rel => exact ⟨q + 1, by go_num, by omega, HX⟩
   case measure => simp [intOf] <;> omega
  ·have hqi : ¬ (q : Int) < (L : Int) := by omega
   go_wp2_with fail
   go_ret
   exact ⟨rfl, HB⟩
end Go.Proofs.YtoajnlhegallpaaGreatDoor
