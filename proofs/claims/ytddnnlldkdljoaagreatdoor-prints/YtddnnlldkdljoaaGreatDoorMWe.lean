/-
  Trees, how the document writes them, and trees in memory; three calls of Write that go on to another function.
  What the document's Write answers, of every tree that is well made.
  What the document's Write answers, of every tree that is well made: handlers, arrows, programs; all of them.
  What the document's Write answers, of every tree that is well made.
-/
import Derived.Test.YtddnnlldkdljoaaGreatDoorMWa
import Derived.Test.YtddnnlldkdljoaaGreatDoorMWb
import Derived.Test.YtddnnlldkdljoaaGreatDoorMWc
import Derived.Test.YtddnnlldkdljoaaGreatDoorMWd
namespace Go.Proofs.YtddnnlldkdljoaaGreatDoor
open Go.RowKit
open Sy (Tr)

set_option maxRecDepth 100000 in
set_option maxHeartbeats 4000000 in
theorem wk_prog (w : World) (p m : Int) (nm : ByteArray) (a : Option Addr) (l c : Nat) (x : List UInt8)
    (h : ∀ (V : World), Below w.heap.size w V → Calls Tryz.prog 22 #[.agg #[.int .i64 0, .int .i64 p, .string nm, .int .i64 m, .slice a l c]] V fun en w' => StrRes V x en w') :
    Calls Tryz.prog 10 #[.agg #[.int .i64 0, .int .i64 p, .string nm, .int .i64 m, .slice a l c]] w fun en w' => StrRes w x en w' := by
  have H := hid h
  clear h
  go_enter Tryz.func10, Tryz.ntmps10
  go_wp2_with fail
  refine (H.out _ ((Below.refl _ _).alloc (Nat.le_refl _) _)).mono ?_
  rintro en w1 ⟨rfl, HB⟩
  go_wp2_with fail
  go_ret
  exact str_fin rfl ((Below.alloc (Below.refl w.heap.size w) (Nat.le_refl _) _).trans (HB.out.mono (by simp)))
set_option maxRecDepth 100000 in
set_option maxHeartbeats 4000000 in
theorem wk_handle (w : World) (p m : Int) (nm : ByteArray) (a : Option Addr) (l c : Nat) (x : List UInt8)
    (h : ∀ (V : World), Below w.heap.size w V → Calls Tryz.prog 27 #[.agg #[.int .i64 20, .int .i64 p, .string nm, .int .i64 m, .slice a l c]] V fun en w' => StrRes V x en w') :
    Calls Tryz.prog 10 #[.agg #[.int .i64 20, .int .i64 p, .string nm, .int .i64 m, .slice a l c]] w fun en w' => StrRes w x en w' := by
  have H := hid h
  clear h
  go_enter Tryz.func10, Tryz.ntmps10
  go_wp2_with fail
  refine (H.out _ ((Below.refl _ _).alloc (Nat.le_refl _) _)).mono ?_
  rintro en w1 ⟨rfl, HB⟩
  go_wp2_with fail
  go_ret
  exact str_fin rfl ((Below.alloc (Below.refl w.heap.size w) (Nat.le_refl _) _).trans (HB.out.mono (by simp)))
set_option maxRecDepth 100000 in
set_option maxHeartbeats 4000000 in
theorem wk_arrow (w : World) (p m : Int) (nm : ByteArray) (a : Option Addr) (l c : Nat) (x : List UInt8)
    (h : ∀ (V : World), Below w.heap.size w V → Calls Tryz.prog 28 #[.agg #[.int .i64 29, .int .i64 p, .string nm, .int .i64 m, .slice a l c]] V fun en w' => StrRes V x en w') :
    Calls Tryz.prog 10 #[.agg #[.int .i64 29, .int .i64 p, .string nm, .int .i64 m, .slice a l c]] w fun en w' => StrRes w x en w' := by
  have H := hid h
  clear h
  go_enter Tryz.func10, Tryz.ntmps10
  go_wp2_with fail
  refine (H.out _ ((Below.refl _ _).alloc (Nat.le_refl _) _)).mono ?_
  rintro en w1 ⟨rfl, HB⟩
  go_wp2_with fail
  go_ret
  exact str_fin rfl ((Below.alloc (Below.refl w.heap.size w) (Nat.le_refl _) _).trans (HB.out.mono (by simp)))

/-- A node's value: its own fields, its kids' slice. -/
def nodeV (t : Tr) (v : Value) : Value := .agg #[.int .i64 t.kind, .int .i64 t.pos, .string ⟨t.name.toArray⟩, .int .i64 t.num, v]
/-- Kids in memory. -/
inductive Ki (w : World) : Value → List Tr → Prop
  | nil (a : Option Addr) (c : Nat) : Ki w (.slice a 0 c) []
  | row (g o c : Nat) (kids : List Tr) (ks : Nat → Value) (h0 : kids ≠ []) (hc : kids.length ≤ c)
      (hcell : ∀ i (h : i < kids.length), Nod w g (o + i * 5) kids[i].kind kids[i].pos ⟨kids[i].name.toArray⟩ kids[i].num (ks i))
      (hk : ∀ i (h : i < kids.length), Ki w (ks i) kids[i].kids) : Ki w (.slice (some ⟨g, o, none⟩) kids.length c) kids
theorem Nod.lt {w : World} {g o : Nat} {k p : Int} {x : ByteArray} {n : Int} {v : Value} (h : Nod w g o k p x n v) : g < w.heap.size := World.block_lt_of_cell? w ⟨g, o, none⟩ h.1
theorem Ki.past {w w' : World} {v : Value} {l : List Tr} (h : Ki w v l) (hb : Below w.heap.size w w') : Ki w' v l := by
  induction h with
  | nil a c => exact .nil a c
  | row g o c kids ks h0 hc hcell hk ih => exact .row g o c kids ks h0 hc (fun i hi => (hcell i hi).past (hcell i hi).lt hb) ih
theorem Ki.slice {w : World} {v : Value} {l : List Tr} (h : Ki w v l) : ∃ a c, v = .slice a l.length c := by
  cases h with
  | nil a c => exact ⟨a, c, rfl⟩
  | row g o c kids ks => exact ⟨_, _, rfl⟩
/-- What a slice of kids that is not empty gives. -/
theorem Ki.cells {w : World} {v : Value} {l : List Tr} (h : Ki w v l) (h0 : l ≠ []) : ∃ (g o c : Nat) (ks : Nat → Value), v = .slice (some ⟨g, o, none⟩) l.length c ∧ l.length ≤ c ∧ g < w.heap.size ∧
    (∀ i (h : i < l.length), Nod w g (o + i * 5) l[i].kind l[i].pos ⟨l[i].name.toArray⟩ l[i].num (ks i)) ∧ ∀ i (h : i < l.length), Ki w (ks i) l[i].kids := by
  cases h with
  | nil a c => exact absurd rfl h0
  | row g o c kids ks _ hc hcell hk => exact ⟨g, o, c, ks, rfl, hc, (hcell 0 (List.length_pos_iff.2 h0)).lt, hcell, hk⟩

/-- What is written of a kid of which a level is asked for. -/
def inT (f : Tr → List UInt8) (t : Tr) (least : Int) : List UInt8 := if levD t.kind t.name < least then [40, 32] ++ f t ++ [32, 41] else f t
def kid0 (t : Tr) : Tr := t.kids.getD 0 Sy.zT
def clauseOf (f : Tr → List UInt8) (t : Tr) : Clause := ⟨t.name, (t.kids.getD 0 Sy.zT).name, (t.kids.getD 1 Sy.zT).name, f (t.kids.getD 2 Sy.zT)⟩
def itemOf (f : Tr → List UInt8) (t : Tr) : List UInt8 :=
  if t.kind = 1 then opT t.num t.name (f (t.kids.getD 0 Sy.zT)) (f (t.kids.getD 1 Sy.zT))
  else if t.kind = 2 then dfT t.num t.name ((kid0 t).name ++ [32, 61, 32] ++ f (kid0 (kid0 t))) else mnT (f t)
/-- What the document writes of a tree; the first number bounds its height. -/
def txt : Nat → Tr → List UInt8
  | 0, _ => []
  | n + 1, t =>
    let a := t.kids.getD 0 Sy.zT
    let b := t.kids.getD 1 Sy.zT
    let k := t.kind
    if k = 0 then itsT (t.kids.map (itemOf (txt n)))
    else if k = 3 then numT t.num
    else if k = 7 then [102, 110, 32] ++ t.name ++ [32, 61, 62, 32] ++ txt n a
    else if k = 8 then (if a.kind = 8 then txt n a else inT (txt n) a 6) ++ [32] ++ inT (txt n) b 6
    else if k = 9 then
      (if t.num = 1 then [108, 101, 116, 32, 114, 101, 99, 32] ++ t.name ++ [32] ++ (a.name ++ [32, 61, 32] ++ txt n (kid0 a)) ++ [32, 105, 110, 32] ++ txt n b
       else [108, 101, 116, 32] ++ t.name ++ [32, 61, 32] ++ txt n a ++ [32, 105, 110, 32] ++ txt n b)
    else if k = 10 then inT (txt n) a 1 ++ [32, 59, 32] ++ txt n b
    else if k = 11 then [105, 102, 32] ++ txt n a ++ [32, 116, 104, 101, 110, 32] ++ txt n b ++ [32, 101, 108, 115, 101, 32] ++ txt n (t.kids.getD 2 Sy.zT)
    else if k = 12 then [40, 32] ++ txt n a ++ [32, 44, 32] ++ txt n b ++ [32, 41]
    else if k = 13 then [102, 115, 116, 32] ++ inT (txt n) a 6
    else if k = 14 then [115, 110, 100, 32] ++ inT (txt n) a 6
    else if k = 16 then inT (txt n) a 3 ++ [32, 58, 58, 32] ++ inT (txt n) b 2
    else if k = 17 then [99, 97, 115, 101, 32] ++ txt n a ++ [32, 111, 102, 32, 91, 32, 93, 32, 61, 62, 32] ++ txt n b ++ [32, 124, 32] ++ (t.kids.getD 2 Sy.zT).name ++ [32, 58, 58, 32] ++ (t.kids.getD 3 Sy.zT).name ++ [32, 61, 62, 32] ++ txt n (t.kids.getD 4 Sy.zT) ++ [32, 101, 110, 100]
    else if k = 18 then
      (if levD 18 t.name = 1 then inT (txt n) a 2 ++ [32] ++ t.name ++ [32] ++ inT (txt n) b 2
       else if levD 18 t.name = 3 then inT (txt n) a 3 ++ [32] ++ t.name ++ [32] ++ inT (txt n) b 4
       else inT (txt n) a 4 ++ [32] ++ t.name ++ [32] ++ inT (txt n) b 5)
    else if k = 19 then [100, 111, 32] ++ t.name ++ [32] ++ inT (txt n) a 6
    else if k = 20 then (if t.num = 1 then [115, 104, 97, 108, 108, 111, 119, 32] else [104, 97, 110, 100, 108, 101, 32]) ++ txt n a ++ [32, 119, 105, 116, 104, 32, 123, 32, 114, 101, 116, 117, 114, 110, 32] ++ b.name ++ [32, 61, 62, 32] ++ txt n (kid0 b) ++ clsT ((t.kids.drop 2).map (clauseOf (txt n))) ++ [32, 125]
    else if k = 27 then inT (txt n) a 2 ++ [32, 108, 105, 115, 116]
    else if k = 28 then inT (txt n) a 2 ++ [32, 42, 32] ++ inT (txt n) b 1
    else if k = 29 then inT (txt n) a 1 ++ arrT ((t.kids.drop 2).map Tr.name) ++ txt n b
    else leafT k t.num t.name
end Go.Proofs.YtddnnlldkdljoaaGreatDoor

namespace Go.Proofs.YtddnnlldkdljoaaGreatDoor
open Go.RowKit
open Sy (Tr)

/-- A tree is well made, to a height: as many kids as its kind has, of the kinds that they may be. -/
def Wf : Nat → Tr → Prop
  | 0, _ => False
  | n + 1, t => t.name.length ≤ 1000000 ∧ (
    (t.kids = [] ∧ (t.kind = 4 ∨ t.kind = 5 ∨ t.kind = 6 ∨ t.kind = 23 ∨ t.kind = 15 ∨ t.kind = 24 ∨ t.kind = 25 ∨ t.kind = 26)) ∨
    (t.kids = [] ∧ t.kind = 3 ∧ -9223372036854775807 ≤ t.num ∧ t.num ≤ 9223372036854775807) ∨
    ((t.kind = 7 ∨ t.kind = 13 ∨ t.kind = 14 ∨ t.kind = 19 ∨ t.kind = 27) ∧ ∃ a, t.kids = [a] ∧ Wf n a) ∨
    ((t.kind = 8 ∨ (t.kind = 9 ∧ t.num ≠ 1) ∨ t.kind = 10 ∨ t.kind = 12 ∨ t.kind = 16 ∨ (t.kind = 18 ∧ (levD 18 t.name = 1 ∨ levD 18 t.name = 3 ∨ levD 18 t.name = 4)) ∨ t.kind = 28) ∧ ∃ a b, t.kids = [a, b] ∧ Wf n a ∧ Wf n b) ∨
    (t.kind = 9 ∧ t.num = 1 ∧ ∃ f a b, t.kids = [f, b] ∧ f.kind = 7 ∧ f.kids = [a] ∧ Wf n a ∧ Wf n b) ∨
    (t.kind = 11 ∧ ∃ a b c, t.kids = [a, b, c] ∧ Wf n a ∧ Wf n b ∧ Wf n c) ∨
    (t.kind = 17 ∧ ∃ a b c d e, t.kids = [a, b, c, d, e] ∧ c.name.length ≤ 1000000 ∧ d.name.length ≤ 1000000 ∧ Wf n a ∧ Wf n b ∧ Wf n e) ∨
    (t.kind = 20 ∧ t.kids.length ≤ 90000 ∧ ∃ a r e cs, t.kids = a :: r :: cs ∧ r.kids = [e] ∧ Wf n a ∧ Wf n e ∧ ∀ q ∈ cs, ∃ x y z, q.kids = [x, y, z] ∧ Wf n z) ∨
    (t.kind = 29 ∧ t.kids.length ≤ 90000 ∧ ∃ a b ns, t.kids = a :: b :: ns ∧ Wf n a ∧ Wf n b) ∨
    (t.kind = 0 ∧ t.kids.length ≤ 90000 ∧ t.kids ≠ [] ∧ ∀ q ∈ t.kids, (q.kind = 1 ∧ ∃ a b, q.kids = [a, b] ∧ Wf n a ∧ Wf n b) ∨ (q.kind = 2 ∧ ∃ f a, q.kids = [f] ∧ f.kind = 7 ∧ f.kids = [a] ∧ Wf n a) ∨ (q.kind ≠ 1 ∧ q.kind ≠ 2 ∧ Wf n q)))

theorem inT_len (f : Tr → List UInt8) (t : Tr) (least : Int) : (f t).length ≤ (inT f t least).length := by
  unfold inT
  split
  · simp; omega
  · exact Nat.le_refl _
def DocOK (n : Nat) : Prop := ∀ (t : Tr), Wf n t → (txt n t).length ≤ 1000000000 → ∀ (w : World) (v : Value), Ki w v t.kids → WOK w (nodeV t v) (txt n t)
theorem in_ok {n : Nat} (h : DocOK n) {t : Tr} (ht : Wf n t) {least : Int} (hl : (inT (txt n) t least).length ≤ 1000000000) {w : World} {v : Value} (hk : Ki w v t.kids) : IOK w (nodeV t v) least (inT (txt n) t least) :=
  in_any t.kind t.pos t.num _ least t.name (txt n t) v w rfl (Nat.le_trans (inT_len _ _ _) hl) (h t ht (Nat.le_trans (inT_len _ _ _) hl) w v hk)
set_option maxHeartbeats 1000000 in
theorem doc_fn {n : Nat} (h : DocOK n) (p : Nat) (x : List UInt8) (m : Int) (a : Tr) (ha : Wf n a) (hl : ([102, 110, 32] ++ x ++ [32, 61, 62, 32] ++ txt n a).length ≤ 1000000000) (hx : x.length ≤ 1000000) (w : World) (v : Value) (hk : Ki w v [a]) :
    WOK w (nodeV (.mk 7 p x m [a]) v) ([102, 110, 32] ++ x ++ [32, 61, 62, 32] ++ txt n a) := by
  intro V hV
  simp only [List.length_append] at hl
  obtain ⟨g, o, cap, ks, rfl, hcap, hg, hcell, hkk⟩ := (hk.past hV).cells (by simp)
  exact wk_fn V p m ⟨x.toArray⟩ g o cap a.kind a.pos ⟨a.name.toArray⟩ a.num (ks 0) _ hcap (by rw [size_mk]; omega) hg (by simpa using hcell 0 (by simp)) (by omega) (h _ ha (by omega) V _ (hkk 0 (by simp))) 

set_option maxHeartbeats 1000000 in
theorem doc_seq {n : Nat} (h : DocOK n) (p : Nat) (x : List UInt8) (m : Int) (a b : Tr) (ha : Wf n a) (hb : Wf n b) (hl : (inT (txt n) a 1 ++ [32, 59, 32] ++ txt n b).length ≤ 1000000000) (hx : x.length ≤ 1000000) (w : World) (v : Value) (hk : Ki w v [a, b]) :
    WOK w (nodeV (.mk 10 p x m [a, b]) v) (inT (txt n) a 1 ++ [32, 59, 32] ++ txt n b) := by
  intro V hV
  simp only [List.length_append] at hl
  obtain ⟨g, o, cap, ks, rfl, hcap, hg, hcell, hkk⟩ := (hk.past hV).cells (by simp)
  exact wk_seq V p m ⟨x.toArray⟩ g o cap a.kind a.pos ⟨a.name.toArray⟩ a.num (ks 0) b.kind b.pos ⟨b.name.toArray⟩ b.num (ks 1) _ _ hcap (by rw [size_mk]; omega) hg (by simpa using hcell 0 (by simp)) (by simpa using hcell 1 (by simp)) (by omega) (in_ok h ha (by omega) (hkk 0 (by simp))) (by omega) (h _ hb (by omega) V _ (hkk 1 (by simp))) 

set_option maxHeartbeats 1000000 in
theorem doc_if {n : Nat} (h : DocOK n) (p : Nat) (x : List UInt8) (m : Int) (a b c : Tr) (ha : Wf n a) (hb : Wf n b) (hc : Wf n c) (hl : ([105, 102, 32] ++ txt n a ++ [32, 116, 104, 101, 110, 32] ++ txt n b ++ [32, 101, 108, 115, 101, 32] ++ txt n c).length ≤ 1000000000) (hx : x.length ≤ 1000000) (w : World) (v : Value) (hk : Ki w v [a, b, c]) :
    WOK w (nodeV (.mk 11 p x m [a, b, c]) v) ([105, 102, 32] ++ txt n a ++ [32, 116, 104, 101, 110, 32] ++ txt n b ++ [32, 101, 108, 115, 101, 32] ++ txt n c) := by
  intro V hV
  simp only [List.length_append] at hl
  obtain ⟨g, o, cap, ks, rfl, hcap, hg, hcell, hkk⟩ := (hk.past hV).cells (by simp)
  exact wk_if V p m ⟨x.toArray⟩ g o cap a.kind a.pos ⟨a.name.toArray⟩ a.num (ks 0) b.kind b.pos ⟨b.name.toArray⟩ b.num (ks 1) c.kind c.pos ⟨c.name.toArray⟩ c.num (ks 2) _ _ _ hcap (by rw [size_mk]; omega) hg (by simpa using hcell 0 (by simp)) (by simpa using hcell 1 (by simp)) (by simpa using hcell 2 (by simp)) (by omega) (h _ ha (by omega) V _ (hkk 0 (by simp))) (by omega) (h _ hb (by omega) V _ (hkk 1 (by simp))) (by omega) (h _ hc (by omega) V _ (hkk 2 (by simp))) 

set_option maxHeartbeats 1000000 in
theorem doc_pair {n : Nat} (h : DocOK n) (p : Nat) (x : List UInt8) (m : Int) (a b : Tr) (ha : Wf n a) (hb : Wf n b) (hl : ([40, 32] ++ txt n a ++ [32, 44, 32] ++ txt n b ++ [32, 41]).length ≤ 1000000000) (hx : x.length ≤ 1000000) (w : World) (v : Value) (hk : Ki w v [a, b]) :
    WOK w (nodeV (.mk 12 p x m [a, b]) v) ([40, 32] ++ txt n a ++ [32, 44, 32] ++ txt n b ++ [32, 41]) := by
  intro V hV
  simp only [List.length_append] at hl
  obtain ⟨g, o, cap, ks, rfl, hcap, hg, hcell, hkk⟩ := (hk.past hV).cells (by simp)
  exact wk_pair V p m ⟨x.toArray⟩ g o cap a.kind a.pos ⟨a.name.toArray⟩ a.num (ks 0) b.kind b.pos ⟨b.name.toArray⟩ b.num (ks 1) _ _ hcap (by rw [size_mk]; omega) hg (by simpa using hcell 0 (by simp)) (by simpa using hcell 1 (by simp)) (by omega) (h _ ha (by omega) V _ (hkk 0 (by simp))) (by omega) (h _ hb (by omega) V _ (hkk 1 (by simp))) 

set_option maxHeartbeats 1000000 in
theorem doc_cons {n : Nat} (h : DocOK n) (p : Nat) (x : List UInt8) (m : Int) (a b : Tr) (ha : Wf n a) (hb : Wf n b) (hl : (inT (txt n) a 3 ++ [32, 58, 58, 32] ++ inT (txt n) b 2).length ≤ 1000000000) (hx : x.length ≤ 1000000) (w : World) (v : Value) (hk : Ki w v [a, b]) :
    WOK w (nodeV (.mk 16 p x m [a, b]) v) (inT (txt n) a 3 ++ [32, 58, 58, 32] ++ inT (txt n) b 2) := by
  intro V hV
  simp only [List.length_append] at hl
  obtain ⟨g, o, cap, ks, rfl, hcap, hg, hcell, hkk⟩ := (hk.past hV).cells (by simp)
  exact wk_cons V p m ⟨x.toArray⟩ g o cap a.kind a.pos ⟨a.name.toArray⟩ a.num (ks 0) b.kind b.pos ⟨b.name.toArray⟩ b.num (ks 1) _ _ hcap (by rw [size_mk]; omega) hg (by simpa using hcell 0 (by simp)) (by simpa using hcell 1 (by simp)) (by omega) (in_ok h ha (by omega) (hkk 0 (by simp))) (by omega) (in_ok h hb (by omega) (hkk 1 (by simp))) 

set_option maxHeartbeats 1000000 in
theorem doc_case {n : Nat} (h : DocOK n) (p : Nat) (x : List UInt8) (m : Int) (a b c d e : Tr) (ha : Wf n a) (hb : Wf n b) (he : Wf n e) (hl : ([99, 97, 115, 101, 32] ++ txt n a ++ [32, 111, 102, 32, 91, 32, 93, 32, 61, 62, 32] ++ txt n b ++ [32, 124, 32] ++ c.name ++ [32, 58, 58, 32] ++ d.name ++ [32, 61, 62, 32] ++ txt n e ++ [32, 101, 110, 100]).length ≤ 1000000000) (hx : x.length ≤ 1000000) (hn2 : c.name.length ≤ 1000000) (hn3 : d.name.length ≤ 1000000) (w : World) (v : Value) (hk : Ki w v [a, b, c, d, e]) :
    WOK w (nodeV (.mk 17 p x m [a, b, c, d, e]) v) ([99, 97, 115, 101, 32] ++ txt n a ++ [32, 111, 102, 32, 91, 32, 93, 32, 61, 62, 32] ++ txt n b ++ [32, 124, 32] ++ c.name ++ [32, 58, 58, 32] ++ d.name ++ [32, 61, 62, 32] ++ txt n e ++ [32, 101, 110, 100]) := by
  intro V hV
  simp only [List.length_append] at hl
  obtain ⟨g, o, cap, ks, rfl, hcap, hg, hcell, hkk⟩ := (hk.past hV).cells (by simp)
  exact wk_case V p m ⟨x.toArray⟩ g o cap a.kind a.pos ⟨a.name.toArray⟩ a.num (ks 0) b.kind b.pos ⟨b.name.toArray⟩ b.num (ks 1) c.kind c.pos ⟨c.name.toArray⟩ c.num (ks 2) d.kind d.pos ⟨d.name.toArray⟩ d.num (ks 3) e.kind e.pos ⟨e.name.toArray⟩ e.num (ks 4) _ _ _ hcap (by rw [size_mk]; omega) hg (by simpa using hcell 0 (by simp)) (by simpa using hcell 1 (by simp)) (by simpa using hcell 2 (by simp)) (by simpa using hcell 3 (by simp)) (by simpa using hcell 4 (by simp)) (by rw [size_mk]; omega) (by rw [size_mk]; omega) (by omega) (h _ ha (by omega) V _ (hkk 0 (by simp))) (by omega) (h _ hb (by omega) V _ (hkk 1 (by simp))) (by omega) (h _ he (by omega) V _ (hkk 4 (by simp))) 

set_option maxHeartbeats 1000000 in
theorem doc_do {n : Nat} (h : DocOK n) (p : Nat) (x : List UInt8) (m : Int) (a : Tr) (ha : Wf n a) (hl : ([100, 111, 32] ++ x ++ [32] ++ inT (txt n) a 6).length ≤ 1000000000) (hx : x.length ≤ 1000000) (w : World) (v : Value) (hk : Ki w v [a]) :
    WOK w (nodeV (.mk 19 p x m [a]) v) ([100, 111, 32] ++ x ++ [32] ++ inT (txt n) a 6) := by
  intro V hV
  simp only [List.length_append] at hl
  obtain ⟨g, o, cap, ks, rfl, hcap, hg, hcell, hkk⟩ := (hk.past hV).cells (by simp)
  exact wk_do V p m ⟨x.toArray⟩ g o cap a.kind a.pos ⟨a.name.toArray⟩ a.num (ks 0) _ hcap (by rw [size_mk]; omega) hg (by simpa using hcell 0 (by simp)) (by omega) (in_ok h ha (by omega) (hkk 0 (by simp))) 

set_option maxHeartbeats 1000000 in
theorem doc_ypair {n : Nat} (h : DocOK n) (p : Nat) (x : List UInt8) (m : Int) (a b : Tr) (ha : Wf n a) (hb : Wf n b) (hl : (inT (txt n) a 2 ++ [32, 42, 32] ++ inT (txt n) b 1).length ≤ 1000000000) (hx : x.length ≤ 1000000) (w : World) (v : Value) (hk : Ki w v [a, b]) :
    WOK w (nodeV (.mk 28 p x m [a, b]) v) (inT (txt n) a 2 ++ [32, 42, 32] ++ inT (txt n) b 1) := by
  intro V hV
  simp only [List.length_append] at hl
  obtain ⟨g, o, cap, ks, rfl, hcap, hg, hcell, hkk⟩ := (hk.past hV).cells (by simp)
  exact wk_ypair V p m ⟨x.toArray⟩ g o cap a.kind a.pos ⟨a.name.toArray⟩ a.num (ks 0) b.kind b.pos ⟨b.name.toArray⟩ b.num (ks 1) _ _ hcap (by rw [size_mk]; omega) hg (by simpa using hcell 0 (by simp)) (by simpa using hcell 1 (by simp)) (by omega) (in_ok h ha (by omega) (hkk 0 (by simp))) (by omega) (in_ok h hb (by omega) (hkk 1 (by simp))) 

set_option maxHeartbeats 1000000 in
theorem doc_let {n : Nat} (h : DocOK n) (p : Nat) (x : List UInt8) (m : Int) (a b : Tr) (ha : Wf n a) (hb : Wf n b) (hm : ¬ m = 1) (hl : ([108, 101, 116, 32] ++ x ++ [32, 61, 32] ++ txt n a ++ [32, 105, 110, 32] ++ txt n b).length ≤ 1000000000) (hx : x.length ≤ 1000000) (w : World) (v : Value) (hk : Ki w v [a, b]) :
    WOK w (nodeV (.mk 9 p x m [a, b]) v) ([108, 101, 116, 32] ++ x ++ [32, 61, 32] ++ txt n a ++ [32, 105, 110, 32] ++ txt n b) := by
  intro V hV
  simp only [List.length_append] at hl
  obtain ⟨g, o, cap, ks, rfl, hcap, hg, hcell, hkk⟩ := (hk.past hV).cells (by simp)
  exact wk_let V p m ⟨x.toArray⟩ g o cap a.kind a.pos ⟨a.name.toArray⟩ a.num (ks 0) b.kind b.pos ⟨b.name.toArray⟩ b.num (ks 1) _ _ hcap (by rw [size_mk]; omega) hg (by simpa using hcell 0 (by simp)) (by simpa using hcell 1 (by simp)) (by omega) (h _ ha (by omega) V _ (hkk 0 (by simp))) (by omega) (h _ hb (by omega) V _ (hkk 1 (by simp))) hm

set_option maxHeartbeats 1000000 in
theorem doc_op1 {n : Nat} (h : DocOK n) (p : Nat) (x : List UInt8) (m : Int) (a b : Tr) (ha : Wf n a) (hb : Wf n b) (hv : levD 18 x = 1) (hl : (inT (txt n) a 2 ++ [32] ++ x ++ [32] ++ inT (txt n) b 2).length ≤ 1000000000) (hx : x.length ≤ 1000000) (w : World) (v : Value) (hk : Ki w v [a, b]) :
    WOK w (nodeV (.mk 18 p x m [a, b]) v) (inT (txt n) a 2 ++ [32] ++ x ++ [32] ++ inT (txt n) b 2) := by
  intro V hV
  simp only [List.length_append] at hl
  obtain ⟨g, o, cap, ks, rfl, hcap, hg, hcell, hkk⟩ := (hk.past hV).cells (by simp)
  exact wk_op1 V p m ⟨x.toArray⟩ g o cap a.kind a.pos ⟨a.name.toArray⟩ a.num (ks 0) b.kind b.pos ⟨b.name.toArray⟩ b.num (ks 1) _ _ hcap (by rw [size_mk]; omega) hg (by simpa using hcell 0 (by simp)) (by simpa using hcell 1 (by simp)) (by omega) (in_ok h ha (by omega) (hkk 0 (by simp))) (by omega) (in_ok h hb (by omega) (hkk 1 (by simp))) x rfl hv

set_option maxHeartbeats 1000000 in
theorem doc_op3 {n : Nat} (h : DocOK n) (p : Nat) (x : List UInt8) (m : Int) (a b : Tr) (ha : Wf n a) (hb : Wf n b) (hv : levD 18 x = 3) (hl : (inT (txt n) a 3 ++ [32] ++ x ++ [32] ++ inT (txt n) b 4).length ≤ 1000000000) (hx : x.length ≤ 1000000) (w : World) (v : Value) (hk : Ki w v [a, b]) :
    WOK w (nodeV (.mk 18 p x m [a, b]) v) (inT (txt n) a 3 ++ [32] ++ x ++ [32] ++ inT (txt n) b 4) := by
  intro V hV
  simp only [List.length_append] at hl
  obtain ⟨g, o, cap, ks, rfl, hcap, hg, hcell, hkk⟩ := (hk.past hV).cells (by simp)
  exact wk_op3 V p m ⟨x.toArray⟩ g o cap a.kind a.pos ⟨a.name.toArray⟩ a.num (ks 0) b.kind b.pos ⟨b.name.toArray⟩ b.num (ks 1) _ _ hcap (by rw [size_mk]; omega) hg (by simpa using hcell 0 (by simp)) (by simpa using hcell 1 (by simp)) (by omega) (in_ok h ha (by omega) (hkk 0 (by simp))) (by omega) (in_ok h hb (by omega) (hkk 1 (by simp))) x rfl hv

set_option maxHeartbeats 1000000 in
theorem doc_op4 {n : Nat} (h : DocOK n) (p : Nat) (x : List UInt8) (m : Int) (a b : Tr) (ha : Wf n a) (hb : Wf n b) (hv : levD 18 x = 4) (hl : (inT (txt n) a 4 ++ [32] ++ x ++ [32] ++ inT (txt n) b 5).length ≤ 1000000000) (hx : x.length ≤ 1000000) (w : World) (v : Value) (hk : Ki w v [a, b]) :
    WOK w (nodeV (.mk 18 p x m [a, b]) v) (inT (txt n) a 4 ++ [32] ++ x ++ [32] ++ inT (txt n) b 5) := by
  intro V hV
  simp only [List.length_append] at hl
  obtain ⟨g, o, cap, ks, rfl, hcap, hg, hcell, hkk⟩ := (hk.past hV).cells (by simp)
  exact wk_op4 V p m ⟨x.toArray⟩ g o cap a.kind a.pos ⟨a.name.toArray⟩ a.num (ks 0) b.kind b.pos ⟨b.name.toArray⟩ b.num (ks 1) _ _ hcap (by rw [size_mk]; omega) hg (by simpa using hcell 0 (by simp)) (by simpa using hcell 1 (by simp)) (by omega) (in_ok h ha (by omega) (hkk 0 (by simp))) (by omega) (in_ok h hb (by omega) (hkk 1 (by simp))) x rfl hv


set_option maxHeartbeats 1000000 in
theorem doc_app {n : Nat} (h : DocOK n) (p : Nat) (x : List UInt8) (m : Int) (a b : Tr) (ha : Wf n a) (hb : Wf n b) (hl : ((if a.kind = 8 then txt n a else inT (txt n) a 6) ++ [32] ++ inT (txt n) b 6).length ≤ 1000000000) (w : World) (v : Value) (hk : Ki w v [a, b]) :
    WOK w (nodeV (.mk 8 p x m [a, b]) v) ((if a.kind = 8 then txt n a else inT (txt n) a 6) ++ [32] ++ inT (txt n) b 6) := by
  intro V hV
  simp only [List.length_append] at hl
  have hj := inT_len (txt n) a 6
  have hta : (txt n a).length ≤ 1000000000 := by split at hl <;> omega
  have hla : ((a.kind : Nat) : Int) ≠ 8 → (inT (txt n) a 6).length ≤ 1000000000 := by
    intro hk8
    rw [if_neg (by omega)] at hl
    omega
  obtain ⟨g, o, cap, ks, rfl, hcap, hg, hcell, hkk⟩ := (hk.past hV).cells (by simp)
  have := wk_app V p m ⟨x.toArray⟩ g o cap a.kind a.pos ⟨a.name.toArray⟩ a.num (ks 0) b.kind b.pos ⟨b.name.toArray⟩ b.num (ks 1) (txt n a) (inT (txt n) a 6) (inT (txt n) b 6) hcap hg (by simpa using hcell 0 (by simp)) (by simpa using hcell 1 (by simp)) hta hla (by omega)
    (h _ ha hta V _ (hkk 0 (by simp))) (in_any a.kind a.pos a.num _ 6 a.name (txt n a) _ V rfl hta (h _ ha hta V _ (hkk 0 (by simp)))) (in_ok h hb (by omega) (hkk 1 (by simp)))
  have e : (((a.kind : Nat) : Int) = 8) = (a.kind = 8) := by rw [eq_iff_iff]; omega
  simp only [e] at this
  exact this

theorem doc_fst {n : Nat} (h : DocOK n) (p : Nat) (x : List UInt8) (m : Int) (a : Tr) (ha : Wf n a) (hl : ([102, 115, 116, 32] ++ inT (txt n) a 6).length ≤ 1000000000) (w : World) (v : Value) (hk : Ki w v [a]) :
    WOK w (nodeV (.mk 13 p x m [a]) v) ([102, 115, 116, 32] ++ inT (txt n) a 6) := by
  intro V hV
  simp only [List.length_append] at hl
  obtain ⟨g, o, cap, ks, rfl, hcap, hg, hcell, hkk⟩ := (hk.past hV).cells (by simp)
  exact wk_fst V p m ⟨x.toArray⟩ g o cap a.kind a.pos ⟨a.name.toArray⟩ a.num (ks 0) _ hcap hg (by simpa using hcell 0 (by simp)) (by omega) (in_ok h ha (by omega) (hkk 0 (by simp)))

theorem doc_snd {n : Nat} (h : DocOK n) (p : Nat) (x : List UInt8) (m : Int) (a : Tr) (ha : Wf n a) (hl : ([115, 110, 100, 32] ++ inT (txt n) a 6).length ≤ 1000000000) (w : World) (v : Value) (hk : Ki w v [a]) :
    WOK w (nodeV (.mk 14 p x m [a]) v) ([115, 110, 100, 32] ++ inT (txt n) a 6) := by
  intro V hV
  simp only [List.length_append] at hl
  obtain ⟨g, o, cap, ks, rfl, hcap, hg, hcell, hkk⟩ := (hk.past hV).cells (by simp)
  exact wk_snd V p m ⟨x.toArray⟩ g o cap a.kind a.pos ⟨a.name.toArray⟩ a.num (ks 0) _ hcap hg (by simpa using hcell 0 (by simp)) (by omega) (in_ok h ha (by omega) (hkk 0 (by simp)))

theorem doc_ylist {n : Nat} (h : DocOK n) (p : Nat) (x : List UInt8) (m : Int) (a : Tr) (ha : Wf n a) (hl : (inT (txt n) a 2 ++ [32, 108, 105, 115, 116]).length ≤ 1000000000) (w : World) (v : Value) (hk : Ki w v [a]) :
    WOK w (nodeV (.mk 27 p x m [a]) v) (inT (txt n) a 2 ++ [32, 108, 105, 115, 116]) := by
  intro V hV
  simp only [List.length_append] at hl
  obtain ⟨g, o, cap, ks, rfl, hcap, hg, hcell, hkk⟩ := (hk.past hV).cells (by simp)
  exact wk_ylist V p m ⟨x.toArray⟩ g o cap a.kind a.pos ⟨a.name.toArray⟩ a.num (ks 0) _ hcap hg (by simpa using hcell 0 (by simp)) (by omega) (in_ok h ha (by omega) (hkk 0 (by simp)))

set_option maxHeartbeats 1000000 in
theorem doc_def {n : Nat} (h : DocOK n) (f a : Tr) (hf : f.kind = 7) (hfk : f.kids = [a]) (ha : Wf n a) (hl : (f.name ++ [32, 61, 32] ++ txt n a).length ≤ 1000000000) (w : World) (v : Value) (hk : Ki w v f.kids) :
    DOK w (nodeV f v) (f.name ++ [32, 61, 32] ++ txt n a) := by
  intro V hV
  simp only [List.length_append] at hl
  rw [hfk] at hk
  obtain ⟨g, o, cap, ks, rfl, hcap, hg, hcell, hkk⟩ := (hk.past hV).cells (by simp)
  have := wk_def V f.pos f.num ⟨f.name.toArray⟩ g o cap a.kind a.pos ⟨a.name.toArray⟩ a.num (ks 0) _ hcap (by rw [size_mk]; omega) hg (by simpa using hcell 0 (by simp)) (by omega) (h _ ha (by omega) V _ (hkk 0 (by simp)))
  have e : nodeV f (.slice (some ⟨g, o, none⟩) [a].length cap) = .agg #[.int .i64 7, .int .i64 f.pos, .string ⟨f.name.toArray⟩, .int .i64 f.num, .slice (some ⟨g, o, none⟩) 1 cap] := by unfold nodeV; rw [hf]; rfl
  rw [e]
  exact this
set_option maxHeartbeats 1000000 in
theorem doc_rec {n : Nat} (h : DocOK n) (p : Nat) (x : List UInt8) (f a b : Tr) (hf : f.kind = 7) (hfk : f.kids = [a]) (ha : Wf n a) (hb : Wf n b) (hl : ([108, 101, 116, 32, 114, 101, 99, 32] ++ x ++ [32] ++ (f.name ++ [32, 61, 32] ++ txt n a) ++ [32, 105, 110, 32] ++ txt n b).length ≤ 1000000000) (w : World) (v : Value) (hk : Ki w v [f, b]) :
    WOK w (nodeV (.mk 9 p x 1 [f, b]) v) ([108, 101, 116, 32, 114, 101, 99, 32] ++ x ++ [32] ++ (f.name ++ [32, 61, 32] ++ txt n a) ++ [32, 105, 110, 32] ++ txt n b) := by
  intro V hV
  have hl2 : (f.name ++ [32, 61, 32] ++ txt n a).length ≤ 1000000000 ∧ x.length ≤ 1000000000 ∧ (txt n b).length ≤ 1000000000 := by
    simp only [List.length_append] at hl ⊢
    omega
  obtain ⟨l1, l2, l3⟩ := hl2
  obtain ⟨g, o, cap, ks, rfl, hcap, hg, hcell, hkk⟩ := (hk.past hV).cells (by simp)
  exact wk_rec V p ⟨x.toArray⟩ g o cap f.kind f.pos ⟨f.name.toArray⟩ f.num (ks 0) b.kind b.pos ⟨b.name.toArray⟩ b.num (ks 1) _ _ hcap (by rw [size_mk]; omega) hg (by simpa using hcell 0 (by simp)) (by simpa using hcell 1 (by simp)) l1 (doc_def h f a hf hfk ha l1 V _ (hkk 0 (by simp))) l3 (h _ hb l3 V _ (hkk 1 (by simp)))
end Go.Proofs.YtddnnlldkdljoaaGreatDoor

namespace Go.Proofs.YtddnnlldkdljoaaGreatDoor
open Go.RowKit
open Sy (Tr)

theorem arrT_len (l : List (List UInt8)) : (commaT l).length ≤ (arrT l).length := by
  unfold arrT
  split
  · rename_i h; subst h; simp [commaT]
  · simp; omega

set_option maxHeartbeats 1000000 in
theorem doc_arrow {n : Nat} (h : DocOK n) (p : Nat) (x : List UInt8) (m : Int) (a b : Tr) (ns : List Tr) (ha : Wf n a) (hb : Wf n b) (hns : (a :: b :: ns).length ≤ 90000) (hl : (inT (txt n) a 1 ++ arrT (ns.map Tr.name) ++ txt n b).length ≤ 1000000000) (w : World) (v : Value) (hk : Ki w v (a :: b :: ns)) :
    WOK w (nodeV (.mk 29 p x m (a :: b :: ns)) v) (inT (txt n) a 1 ++ arrT (ns.map Tr.name) ++ txt n b) := by
  intro V hV
  have hal := arrT_len (ns.map Tr.name)
  simp only [List.length_append] at hl
  obtain ⟨a', c', rfl⟩ := hk.slice
  refine wk_arrow V p m ⟨x.toArray⟩ a' (a :: b :: ns).length c' _ ?_
  intro U hU
  obtain ⟨g, o, cap, ks, hs, hcap, hg, hcell, hkk⟩ := ((hk.past hV).past hU).cells (by simp)
  simp only [Value.slice.injEq] at hs
  obtain ⟨rfl, _, rfl⟩ := hs
  refine arrow_any U p m ⟨x.toArray⟩ g o c' (a :: b :: ns).length a.kind a.pos ⟨a.name.toArray⟩ a.num (ks 0) b.kind b.pos ⟨b.name.toArray⟩ b.num (ks 1) _ _ (ns.map Tr.name) (by simp) (by omega) hcap hg (hcell 0 (by simp)) (hcell 1 (by simp)) ?_ (by omega) (by omega) (by omega)
    (in_ok h ha (by omega) (hkk 0 (by simp))) (h _ hb (by omega) U _ (hkk 1 (by simp)))
  intro j hj
  have hj2 : j < ns.length := by simpa using hj
  have := (hcell (j + 2) (by simp; omega)).2.2.1
  simpa using this

set_option maxHeartbeats 1000000 in
theorem doc_handle {n : Nat} (h : DocOK n) (p : Nat) (x : List UInt8) (m : Int) (a r e : Tr) (cs : List Tr) (ha : Wf n a) (hr : r.kids = [e]) (he : Wf n e) (hcs : ∀ q ∈ cs, ∃ x y z, q.kids = [x, y, z] ∧ Wf n z) (hns : (a :: r :: cs).length ≤ 90000)
    (hl : ((if m = 1 then [115, 104, 97, 108, 108, 111, 119, 32] else [104, 97, 110, 100, 108, 101, 32]) ++ txt n a ++ [32, 119, 105, 116, 104, 32, 123, 32, 114, 101, 116, 117, 114, 110, 32] ++ r.name ++ [32, 61, 62, 32] ++ txt n e ++ clsT (cs.map (clauseOf (txt n))) ++ [32, 125]).length ≤ 1000000000) (w : World) (v : Value) (hk : Ki w v (a :: r :: cs)) :
    WOK w (nodeV (.mk 20 p x m (a :: r :: cs)) v) ((if m = 1 then [115, 104, 97, 108, 108, 111, 119, 32] else [104, 97, 110, 100, 108, 101, 32]) ++ txt n a ++ [32, 119, 105, 116, 104, 32, 123, 32, 114, 101, 116, 117, 114, 110, 32] ++ r.name ++ [32, 61, 62, 32] ++ txt n e ++ clsT (cs.map (clauseOf (txt n))) ++ [32, 125]) := by
  intro V hV
  have hl2 : (txt n a).length ≤ 1000000000 ∧ r.name.length ≤ 1000000000 ∧ (txt n e).length ≤ 1000000000 ∧ (clsT (cs.map (clauseOf (txt n)))).length ≤ 1000000000 := by
    simp only [List.length_append] at hl
    omega
  obtain ⟨l1, l2, l3, l4⟩ := hl2
  obtain ⟨a', c', rfl⟩ := hk.slice
  refine wk_handle V p m ⟨x.toArray⟩ a' (a :: r :: cs).length c' _ ?_
  intro U hU
  obtain ⟨g, o, cap, ks, hs, hcap, hg, hcell, hkk⟩ := ((hk.past hV).past hU).cells (by simp)
  simp only [Value.slice.injEq] at hs
  obtain ⟨rfl, _, rfl⟩ := hs
  have hk1 := hkk 1 (by simp)
  simp only [List.getElem_cons_succ, List.getElem_cons_zero] at hk1
  rw [hr] at hk1
  obtain ⟨g1, o1, c1, ks1, hs1, hc1, hg1, hcell1, hkk1⟩ := hk1.cells (by simp)
  have hr1 := hcell 1 (by simp)
  simp only [List.getElem_cons_succ, List.getElem_cons_zero] at hr1
  rw [hs1] at hr1
  refine handle_any U p m ⟨x.toArray⟩ ⟨r.name.toArray⟩ g o c' (a :: r :: cs).length g1 o1 c1 a.kind a.pos ⟨a.name.toArray⟩ a.num (ks 0) e.kind e.pos ⟨e.name.toArray⟩ e.num (ks1 0) (txt n a) (txt n e) (cs.map (clauseOf (txt n))) (by simp) (by omega) hcap hg hg1 (by simpa using hc1) (hcell 0 (by simp)) (by simpa using hr1.2.2.1) (by simpa using hr1.2.2.2.2) (by simpa using hcell1 0 (by simp)) ?_ l1 l3 (by rw [size_mk]; omega) l4
    (h _ ha l1 U _ (hkk 0 (by simp))) (h _ he l3 U _ (hkk1 0 (by simp)))
  intro j hj
  have hj2 : j < cs.length := by simpa using hj
  have hq := hcell (j + 2) (by simp; omega)
  have hqk := hkk (j + 2) (by simp; omega)
  simp only [List.getElem_cons_succ] at hq hqk
  obtain ⟨xx, yy, zz, h1, h2⟩ := hcs cs[j] (List.getElem_mem hj2)
  rw [h1] at hqk
  obtain ⟨g2, o2, c2, ks2, hs2, hc2, hg2, hcell2, hkk2⟩ := hqk.cells (by simp)
  rw [hs2] at hq
  rw [List.getElem_map]
  have hz : (txt n zz).length ≤ 1000000000 := by
    have e1 := clsT_step (cs.map (clauseOf (txt n))) j hj
    have e2 := clsT_len (cs.map (clauseOf (txt n))) (j + 1)
    have e3 := congrArg List.length e1
    rw [List.getElem_map] at e3
    simp only [List.length_append, clT, clauseOf, h1, List.getD_cons_succ, List.getD_cons_zero] at e3
    omega
  refine ⟨_, _, _, g2, o2, c2, zz.kind, zz.pos, ⟨zz.name.toArray⟩, zz.num, ks2 2, hq, hc2, hg2, ?_, ?_, by simpa using hcell2 2 (by simp), ?_⟩
  · have := (hcell2 0 (by simp)).2.2.1
    simpa [clauseOf, h1] using this
  · have := (hcell2 1 (by simp)).2.2.1
    simpa [clauseOf, h1] using this
  · have := h zz h2 hz U _ (hkk2 2 (by simp))
    simpa [clauseOf, h1, nodeV] using this

set_option maxHeartbeats 1000000 in
theorem doc_prog {n : Nat} (h : DocOK n) (p : Nat) (x : List UInt8) (m : Int) (l : List Tr) (h0 : l ≠ []) (hns : l.length ≤ 90000)
    (hit : ∀ q ∈ l, (q.kind = 1 ∧ ∃ a b, q.kids = [a, b] ∧ Wf n a ∧ Wf n b) ∨ (q.kind = 2 ∧ ∃ f a, q.kids = [f] ∧ f.kind = 7 ∧ f.kids = [a] ∧ Wf n a) ∨ (q.kind ≠ 1 ∧ q.kind ≠ 2 ∧ Wf n q))
    (hl : (itsT (l.map (itemOf (txt n)))).length ≤ 1000000000) (w : World) (v : Value) (hk : Ki w v l) :
    WOK w (nodeV (.mk 0 p x m l) v) (itsT (l.map (itemOf (txt n)))) := by
  intro V hV
  obtain ⟨a', c', rfl⟩ := hk.slice
  refine wk_prog V p m ⟨x.toArray⟩ a' l.length c' _ ?_
  intro U hU
  obtain ⟨g, o, cap, ks, hs, hcap, hg, hcell, hkk⟩ := ((hk.past hV).past hU).cells h0
  simp only [Value.slice.injEq] at hs
  obtain ⟨rfl, _, rfl⟩ := hs
  refine prog_any U p m ⟨x.toArray⟩ g o c' l.length (l.map (itemOf (txt n))) (by simp) (by omega) hcap hg ?_ hl
  intro j hj
  have hj2 : j < l.length := by simpa using hj
  have hq := hcell j hj2
  have hqk := hkk j hj2
  have hlen : (itemOf (txt n) l[j]).length ≤ 1000000000 := by
    have e1 := itsT_step (l.map (itemOf (txt n))) j hj
    have e2 := itsT_len (l.map (itemOf (txt n))) (j + 1)
    have e3 := congrArg List.length e1
    rw [List.getElem_map, List.length_append] at e3
    omega
  rw [List.getElem_map]
  have hm := hit l[j] (List.getElem_mem hj2)
  generalize l[j] = q at hq hqk hlen hm ⊢
  generalize ks j = vq at hq hqk
  refine ⟨q.kind, q.pos, q.num, q.name, vq, hq, ?_⟩
  rcases hm with ⟨k1, a, b, hab, ha, hb⟩ | ⟨k2, f, a, hf, hf7, hfa, ha⟩ | ⟨k1, k2, hw⟩
  · refine .inl ⟨by rw [k1]; rfl, ?_⟩
    rw [hab] at hqk
    obtain ⟨g2, o2, c2, ks2, hs2, hc2, hg2, hcell2, hkk2⟩ := hqk.cells (by simp)
    have e : itemOf (txt n) q = opT q.num q.name (txt n a) (txt n b) := by simp [itemOf, k1, hab]
    rw [e] at hlen ⊢
    have hl2 : (txt n a).length ≤ 1000000000 ∧ (txt n b).length ≤ 1000000000 := by
      simp only [opT, List.length_append] at hlen
      omega
    exact ⟨g2, o2, c2, a.kind, a.pos, ⟨a.name.toArray⟩, a.num, ks2 0, b.kind, b.pos, ⟨b.name.toArray⟩, b.num, ks2 1, txt n a, txt n b, hs2, hc2, hg2, hcell2 0 (by simp), hcell2 1 (by simp), h _ ha hl2.1 U _ (hkk2 0 (by simp)), h _ hb hl2.2 U _ (hkk2 1 (by simp)), rfl⟩
  · refine .inr (.inl ⟨by rw [k2]; rfl, ?_⟩)
    rw [hf] at hqk
    obtain ⟨g2, o2, c2, ks2, hs2, hc2, hg2, hcell2, hkk2⟩ := hqk.cells (by simp)
    have e : itemOf (txt n) q = dfT q.num q.name (f.name ++ [32, 61, 32] ++ txt n a) := by simp [itemOf, k2, hf, kid0, hfa]
    rw [e] at hlen ⊢
    have hl2 : (f.name ++ [32, 61, 32] ++ txt n a).length ≤ 1000000000 := by
      simp only [dfT, List.length_append] at hlen ⊢
      omega
    exact ⟨g2, o2, c2, f.kind, f.pos, ⟨f.name.toArray⟩, f.num, ks2 0, _, hs2, hc2, hg2, hcell2 0 (by simp), doc_def h f a hf7 hfa ha hl2 U _ (hkk2 0 (by simp)), rfl⟩
  · refine .inr (.inr ⟨by omega, by omega, ?_, ?_⟩)
    · obtain ⟨a, c, hs2⟩ := hqk.slice
      exact ⟨a, _, c, hs2⟩
    · have e : itemOf (txt n) q = mnT (txt n q) := by simp [itemOf, k1, k2]
      rw [e] at hlen ⊢
      have hl2 : (txt n q).length ≤ 1000000000 := by
        simp only [mnT, List.length_append] at hlen
        omega
      exact ⟨txt n q, h _ hw hl2 U _ hqk, rfl⟩
end Go.Proofs.YtddnnlldkdljoaaGreatDoor

namespace Go.Proofs.YtddnnlldkdljoaaGreatDoor
open Go.RowKit
open Sy (Tr)

theorem mk_kind (k p : Nat) (x : List UInt8) (m : Int) (l : List Tr) : (Tr.mk k p x m l).kind = k := rfl
theorem mk_name (k p : Nat) (x : List UInt8) (m : Int) (l : List Tr) : (Tr.mk k p x m l).name = x := rfl
theorem mk_num (k p : Nat) (x : List UInt8) (m : Int) (l : List Tr) : (Tr.mk k p x m l).num = m := rfl
theorem mk_kids (k p : Nat) (x : List UInt8) (m : Int) (l : List Tr) : (Tr.mk k p x m l).kids = l := rfl

set_option maxHeartbeats 4000000 in
theorem doc_any : ∀ (n : Nat), DocOK n := by
  intro n
  induction n with
  | zero => intro t ht; exact absurd ht (by simp [Wf])
  | succ n ih =>
    intro t ht hl w v hk
    obtain ⟨k, p, x, m, l⟩ := t
    obtain ⟨hx, ht⟩ := ht
    simp only [mk_kind, mk_kids, mk_name, mk_num] at ht hx hk
    rcases ht with ⟨rfl, hkk⟩ | ⟨rfl, rfl, h1, h2⟩ | ⟨hkk, a, rfl, ha⟩ | ⟨hkk, a, b, rfl, ha, hb⟩ | ⟨rfl, rfl, f, a, b, rfl, hf, hfa, ha, hb⟩ | ⟨rfl, a, b, c, rfl, ha, hb, hc⟩ | ⟨rfl, a, b, c, d, e, rfl, hc, hd, ha, hb, he⟩ | ⟨rfl, hns, a, r, e, cs, rfl, hr, ha, he, hcs⟩ | ⟨rfl, hns, a, b, ns, rfl, ha, hb⟩ | ⟨rfl, hns, h0, hit⟩
    · intro V hV
      have e : txt (n + 1) (.mk k p x m []) = leafT k m x := by
        rcases hkk with rfl | rfl | rfl | rfl | rfl | rfl | rfl | rfl <;> simp [txt, Sy.Tr.kind, Sy.Tr.name, Sy.Tr.num]
      rw [e]
      exact wk_leaf V k p m x v (by omega)
    · intro V hV
      have e : txt (n + 1) (.mk 3 p x m []) = numT m := by simp [txt, Sy.Tr.kind, Sy.Tr.num]
      rw [e]
      exact wk_int V p m _ v h1 h2
    · rcases hkk with rfl | rfl | rfl | rfl | rfl
      · have e : txt (n + 1) (.mk 7 p x m [a]) = [102, 110, 32] ++ x ++ [32, 61, 62, 32] ++ txt n a := rfl
        rw [e] at hl ⊢
        exact doc_fn ih p x m a ha hl hx w v hk
      · have e : txt (n + 1) (.mk 13 p x m [a]) = [102, 115, 116, 32] ++ inT (txt n) a 6 := rfl
        rw [e] at hl ⊢
        exact doc_fst ih p x m a ha hl w v hk
      · have e : txt (n + 1) (.mk 14 p x m [a]) = [115, 110, 100, 32] ++ inT (txt n) a 6 := rfl
        rw [e] at hl ⊢
        exact doc_snd ih p x m a ha hl w v hk
      · have e : txt (n + 1) (.mk 19 p x m [a]) = [100, 111, 32] ++ x ++ [32] ++ inT (txt n) a 6 := rfl
        rw [e] at hl ⊢
        exact doc_do ih p x m a ha hl hx w v hk
      · have e : txt (n + 1) (.mk 27 p x m [a]) = inT (txt n) a 2 ++ [32, 108, 105, 115, 116] := rfl
        rw [e] at hl ⊢
        exact doc_ylist ih p x m a ha hl w v hk
    · rcases hkk with rfl | ⟨rfl, hm⟩ | rfl | rfl | rfl | ⟨rfl, hv⟩ | rfl
      · have e : txt (n + 1) (.mk 8 p x m [a, b]) = (if a.kind = 8 then txt n a else inT (txt n) a 6) ++ [32] ++ inT (txt n) b 6 := rfl
        rw [e] at hl ⊢
        exact doc_app ih p x m a b ha hb hl w v hk
      · have e : txt (n + 1) (.mk 9 p x m [a, b]) = [108, 101, 116, 32] ++ x ++ [32, 61, 32] ++ txt n a ++ [32, 105, 110, 32] ++ txt n b := by
          have : txt (n + 1) (.mk 9 p x m [a, b]) = (if m = 1 then [108, 101, 116, 32, 114, 101, 99, 32] ++ x ++ [32] ++ (a.name ++ [32, 61, 32] ++ txt n (kid0 a)) ++ [32, 105, 110, 32] ++ txt n b else [108, 101, 116, 32] ++ x ++ [32, 61, 32] ++ txt n a ++ [32, 105, 110, 32] ++ txt n b) := rfl
          rw [this, if_neg hm]
        rw [e] at hl ⊢
        exact doc_let ih p x m a b ha hb hm hl hx w v hk
      · have e : txt (n + 1) (.mk 10 p x m [a, b]) = inT (txt n) a 1 ++ [32, 59, 32] ++ txt n b := rfl
        rw [e] at hl ⊢
        exact doc_seq ih p x m a b ha hb hl hx w v hk
      · have e : txt (n + 1) (.mk 12 p x m [a, b]) = [40, 32] ++ txt n a ++ [32, 44, 32] ++ txt n b ++ [32, 41] := rfl
        rw [e] at hl ⊢
        exact doc_pair ih p x m a b ha hb hl hx w v hk
      · have e : txt (n + 1) (.mk 16 p x m [a, b]) = inT (txt n) a 3 ++ [32, 58, 58, 32] ++ inT (txt n) b 2 := rfl
        rw [e] at hl ⊢
        exact doc_cons ih p x m a b ha hb hl hx w v hk
      · have e0 : txt (n + 1) (.mk 18 p x m [a, b]) = (if levD 18 x = 1 then inT (txt n) a 2 ++ [32] ++ x ++ [32] ++ inT (txt n) b 2 else if levD 18 x = 3 then inT (txt n) a 3 ++ [32] ++ x ++ [32] ++ inT (txt n) b 4 else inT (txt n) a 4 ++ [32] ++ x ++ [32] ++ inT (txt n) b 5) := rfl
        rcases hv with hv | hv | hv
        · rw [e0, if_pos hv] at hl ⊢
          exact doc_op1 ih p x m a b ha hb hv hl hx w v hk
        · rw [e0, if_neg (by rw [hv]; decide), if_pos hv] at hl ⊢
          exact doc_op3 ih p x m a b ha hb hv hl hx w v hk
        · rw [e0, if_neg (by rw [hv]; decide), if_neg (by rw [hv]; decide)] at hl ⊢
          exact doc_op4 ih p x m a b ha hb hv hl hx w v hk
      · have e : txt (n + 1) (.mk 28 p x m [a, b]) = inT (txt n) a 2 ++ [32, 42, 32] ++ inT (txt n) b 1 := rfl
        rw [e] at hl ⊢
        exact doc_ypair ih p x m a b ha hb hl hx w v hk
    · have e : txt (n + 1) (.mk 9 p x 1 [f, b]) = [108, 101, 116, 32, 114, 101, 99, 32] ++ x ++ [32] ++ (f.name ++ [32, 61, 32] ++ txt n a) ++ [32, 105, 110, 32] ++ txt n b := by
        have : txt (n + 1) (.mk 9 p x 1 [f, b]) = [108, 101, 116, 32, 114, 101, 99, 32] ++ x ++ [32] ++ (f.name ++ [32, 61, 32] ++ txt n (kid0 f)) ++ [32, 105, 110, 32] ++ txt n b := rfl
        rw [this]
        simp [kid0, hfa]
      rw [e] at hl ⊢
      exact doc_rec ih p x f a b hf hfa ha hb hl w v hk
    · have e : txt (n + 1) (.mk 11 p x m [a, b, c]) = [105, 102, 32] ++ txt n a ++ [32, 116, 104, 101, 110, 32] ++ txt n b ++ [32, 101, 108, 115, 101, 32] ++ txt n c := rfl
      rw [e] at hl ⊢
      exact doc_if ih p x m a b c ha hb hc hl hx w v hk
    · have e : txt (n + 1) (.mk 17 p x m [a, b, c, d, e]) = [99, 97, 115, 101, 32] ++ txt n a ++ [32, 111, 102, 32, 91, 32, 93, 32, 61, 62, 32] ++ txt n b ++ [32, 124, 32] ++ c.name ++ [32, 58, 58, 32] ++ d.name ++ [32, 61, 62, 32] ++ txt n e ++ [32, 101, 110, 100] := rfl
      rw [e] at hl ⊢
      exact doc_case ih p x m a b c d _ ha hb he hl hx hc hd w v hk
    · have e2 : txt (n + 1) (.mk 20 p x m (a :: r :: cs)) = (if m = 1 then [115, 104, 97, 108, 108, 111, 119, 32] else [104, 97, 110, 100, 108, 101, 32]) ++ txt n a ++ [32, 119, 105, 116, 104, 32, 123, 32, 114, 101, 116, 117, 114, 110, 32] ++ r.name ++ [32, 61, 62, 32] ++ txt n e ++ clsT (cs.map (clauseOf (txt n))) ++ [32, 125] := by
        have : txt (n + 1) (.mk 20 p x m (a :: r :: cs)) = (if m = 1 then [115, 104, 97, 108, 108, 111, 119, 32] else [104, 97, 110, 100, 108, 101, 32]) ++ txt n a ++ [32, 119, 105, 116, 104, 32, 123, 32, 114, 101, 116, 117, 114, 110, 32] ++ r.name ++ [32, 61, 62, 32] ++ txt n (kid0 r) ++ clsT (cs.map (clauseOf (txt n))) ++ [32, 125] := rfl
        rw [this]
        simp [kid0, hr]
      rw [e2] at hl ⊢
      exact doc_handle ih p x m a r e cs ha hr he hcs hns hl w v hk
    · have e : txt (n + 1) (.mk 29 p x m (a :: b :: ns)) = inT (txt n) a 1 ++ arrT (ns.map Tr.name) ++ txt n b := rfl
      rw [e] at hl ⊢
      exact doc_arrow ih p x m a b ns ha hb hns hl w v hk
    · have e : txt (n + 1) (.mk 0 p x m l) = itsT (l.map (itemOf (txt n))) := rfl
      rw [e] at hl ⊢
      exact doc_prog ih p x m l h0 hns hit hl w v hk
end Go.Proofs.YtddnnlldkdljoaaGreatDoor
