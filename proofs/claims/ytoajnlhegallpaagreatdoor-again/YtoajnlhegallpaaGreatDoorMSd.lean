/-
  Which trees may be walked: every tree whose nodes have the kids that their kinds ask for, and that is not too great.
  The program's Print: of a tree that is well made and not too great, its tokens with blanks between them.
-/
import Derived.Test.YtoajnlhegallpaaGreatDoorMSb
import Derived.Test.YtoajnlhegallpaaGreatDoorMSc
import Derived.Test.YtoajnlhegallpaaGreatDoorMPu
set_option linter.unusedVariables false
set_option linter.unusedSimpArgs false
set_option maxRecDepth 100000
set_option maxHeartbeats 4000000
namespace Go.Proofs.YtoajnlhegallpaaGreatDoor
open Go.RowKit
open Sy (Tr)

def sK (t : Tr) : Prop :=
 (t.kids.length = 0 ∧ (t.kind = 3 ∨ t.kind = 4 ∨ t.kind = 5 ∨ t.kind = 6 ∨ t.kind = 15 ∨ t.kind = 23 ∨ t.kind = 24 ∨ t.kind = 25 ∨ t.kind = 26)) ∨
 (t.kids.length = 1 ∧ (t.kind = 7 ∨ t.kind = 13 ∨ t.kind = 14 ∨ t.kind = 19 ∨ t.kind = 21 ∨ t.kind = 27)) ∨
 (t.kids.length = 2 ∧ (t.kind = 1 ∨ t.kind = 8 ∨ t.kind = 10 ∨ t.kind = 12 ∨ t.kind = 16 ∨ t.kind = 18 ∨ t.kind = 28)) ∨
 (t.kids.length = 3 ∧ (t.kind = 11 ∨ t.kind = 22)) ∨
 (t.kids.length = 5 ∧ t.kind = 17) ∨
 (t.kind = 2 ∧ ∃ f, t.kids = [f] ∧ f.kind = 7) ∨
 (t.kind = 9 ∧ t.kids.length = 2 ∧ t.num ≠ 1) ∨
 (t.kind = 9 ∧ t.num = 1 ∧ ∃ f b, t.kids = [f, b] ∧ f.kind = 7) ∨
 (t.kind = 20 ∧ ∃ a r cs, t.kids = a :: r :: cs ∧ r.kind = 21 ∧ ∀ q ∈ cs, q.kind = 22) ∨
 (t.kind = 29 ∧ ∃ a b ns, t.kids = a :: b :: ns ∧ ∀ q ∈ ns, q.kind = 23) ∨
 (t.kind = 0 ∧ ∃ ops defs mn, t.kids = ops ++ defs ++ [mn] ∧ t.num = ops.length ∧ (∀ q ∈ ops, q.kind = 1) ∧ ∀ q ∈ defs, q.kind = 2)

theorem kinds_at {w0 : World} {g o : Nat} {ks : Nat → Value} (l : List Tr) (hcell : ∀ i (h : i < l.length), Nod w0 g (o + i * 5) l[i].kind l[i].pos ⟨l[i].name.toArray⟩ l[i].num (ks i)) (hkk : ∀ i (h : i < l.length), Ki w0 (ks i) l[i].kids)
  (off n kd : Nat) (hn : off + n ≤ l.length) (hq : ∀ j (h : j < n), (l[off + j]'(by omega)).kind = kd) :
  ∀ j, j < n → ∃ (p m : Int) (x : ByteArray) (va : Option Addr) (vl vc : Nat), Nod w0 g (o + off * 5 + j * 5) kd p x m (.slice va vl vc) := by
 intro j hj
 have h1 := hcell (off + j) (by omega)
 obtain ⟨a, c, h2⟩ := (hkk (off + j) (by omega)).slice
 rw [hq j hj, h2, show o + (off + j) * 5 = o + off * 5 + j * 5 by omega] at h1
 exact ⟨_, _, _, _, _, _, h1⟩

theorem hkids_any (t : Tr) (ht : sK t) (hlen : t.kids.length ≤ 90000) (w0 : World) (v : Value) (hk : Ki w0 v t.kids) : HKP w0 (nodeV t v) := by
 obtain ⟨k, p, x, m, kids⟩ := t
 replace hk : Ki w0 v kids := hk
 replace hlen : kids.length ≤ 90000 := hlen
 rcases ht with ⟨hl, ht⟩ | ⟨hl, ht⟩ | ⟨hl, ht⟩ | ⟨hl, ht⟩ | ⟨hl, ht⟩ | ⟨e1, f, e2, hf⟩ | ⟨e1, hl, hm⟩ | ⟨e1, e2, f, b, e3, hf⟩ | ⟨e1, a, r, cs, e2, hr, hcs⟩ | ⟨e1, a, b, ns, e2, hns⟩ | ⟨e1, ops, defs, mn, e2, hm, ho, hd⟩
 ·replace hl : kids.length = 0 := hl
  replace ht : k = 3 ∨ k = 4 ∨ k = 5 ∨ k = 6 ∨ k = 15 ∨ k = 23 ∨ k = 24 ∨ k = 25 ∨ k = 26 := ht
  obtain ⟨a, c, rfl⟩ := hk.slice
  rw [hl]
  rcases ht with rfl | rfl | rfl | rfl | rfl | rfl | rfl | rfl | rfl
  ·exact hk_3 w0 p m x a c
  ·exact hk_4 w0 p m x a c
  ·exact hk_5 w0 p m x a c
  ·exact hk_6 w0 p m x a c
  ·exact hk_15 w0 p m x a c
  ·exact hk_23 w0 p m x a c
  ·exact hk_24 w0 p m x a c
  ·exact hk_25 w0 p m x a c
  ·exact hk_26 w0 p m x a c
 ·replace hl : kids.length = 1 := hl
  replace ht : k = 7 ∨ k = 13 ∨ k = 14 ∨ k = 19 ∨ k = 21 ∨ k = 27 := ht
  obtain ⟨a, c, rfl⟩ := hk.slice
  rw [hl]
  rcases ht with rfl | rfl | rfl | rfl | rfl | rfl
  ·exact hk_7 w0 p m x a c
  ·exact hk_13 w0 p m x a c
  ·exact hk_14 w0 p m x a c
  ·exact hk_19 w0 p m x a c
  ·exact hk_21 w0 p m x a c
  ·exact hk_27 w0 p m x a c
 ·replace hl : kids.length = 2 := hl
  replace ht : k = 1 ∨ k = 8 ∨ k = 10 ∨ k = 12 ∨ k = 16 ∨ k = 18 ∨ k = 28 := ht
  obtain ⟨a, c, rfl⟩ := hk.slice
  rw [hl]
  rcases ht with rfl | rfl | rfl | rfl | rfl | rfl | rfl
  ·exact hk_1 w0 p m x a c
  ·exact hk_8 w0 p m x a c
  ·exact hk_10 w0 p m x a c
  ·exact hk_12 w0 p m x a c
  ·exact hk_16 w0 p m x a c
  ·exact hk_18 w0 p m x a c
  ·exact hk_28 w0 p m x a c
 ·replace hl : kids.length = 3 := hl
  replace ht : k = 11 ∨ k = 22 := ht
  obtain ⟨a, c, rfl⟩ := hk.slice
  rw [hl]
  rcases ht with rfl | rfl
  ·exact hk_11 w0 p m x a c
  ·exact hk_22 w0 p m x a c
 ·replace hl : kids.length = 5 := hl
  replace ht : k = 17 := ht
  obtain ⟨a, c, rfl⟩ := hk.slice
  rw [hl]
  subst ht
  exact hk_17 w0 p m x a c
 ·replace e1 : k = 2 := e1
  replace e2 : kids = [f] := e2
  subst e1 e2
  obtain ⟨g, o, cap, ks, rfl, hcap, hg, hcell, hkk⟩ := hk.cells (by simp)
  exact hk_2 w0 p m x g o cap f.kind f.pos f.num ⟨f.name.toArray⟩ (ks 0) hg hcap (by rw [hf]; rfl) (by simpa using hcell 0 (by simp))
 ·replace e1 : k = 9 := e1
  replace hl : kids.length = 2 := hl
  subst e1
  obtain ⟨a, c, rfl⟩ := hk.slice
  rw [hl]
  exact hk_9 w0 p m x a c hm
 ·replace e1 : k = 9 := e1
  replace e2 : m = 1 := e2
  replace e3 : kids = [f, b] := e3
  subst e1 e2 e3
  obtain ⟨g, o, cap, ks, rfl, hcap, hg, hcell, hkk⟩ := hk.cells (by simp)
  exact hk_9rec w0 p x g o cap f.kind f.pos f.num ⟨f.name.toArray⟩ (ks 0) hg hcap (by rw [hf]; rfl) (by simpa using hcell 0 (by simp))
 ·replace e1 : k = 20 := e1
  replace e2 : kids = a :: r :: cs := e2
  subst e1 e2
  obtain ⟨g, o, cap, ks, rfl, hcap, hg, hcell, hkk⟩ := hk.cells (by simp)
  have E1 : Nod w0 g (o + 5) r.kind r.pos ⟨r.name.toArray⟩ r.num (ks 1) := by have := hcell 1 (by simp); rw [Nat.one_mul] at this; exact this
  have hll : (a :: r :: cs).length = cs.length + 2 := by simp
  by_cases hc2 : cap = 2
  ·have hcs0 : cs = [] := List.eq_nil_of_length_eq_zero (by omega)
   subst hcs0 hc2
   exact hk_20A w0 p m x g o r.kind r.pos r.num ⟨r.name.toArray⟩ (ks 1) hg (by rw [hr]; rfl) E1
  ·exact hk_20B w0 p m x g o cap _ r.kind r.pos r.num ⟨r.name.toArray⟩ (ks 1) hg (by rw [hr]; rfl) E1 (by omega) (by omega) hcap hc2
    (kinds_at (a :: r :: cs) hcell hkk 2 _ 22 (by omega) (fun j hj => by
     have e : (a :: r :: cs)[2 + j]'(by omega) = cs[j]'(by omega) := by simp [Nat.add_comm 2 j]
     rw [e]
     exact hcs _ (List.getElem_mem _)))
 ·replace e1 : k = 29 := e1
  replace e2 : kids = a :: b :: ns := e2
  subst e1 e2
  obtain ⟨g, o, cap, ks, rfl, hcap, hg, hcell, hkk⟩ := hk.cells (by simp)
  have hll : (a :: b :: ns).length = ns.length + 2 := by simp
  by_cases hc2 : cap = 2
  ·have hcs0 : ns = [] := List.eq_nil_of_length_eq_zero (by omega)
   subst hcs0 hc2
   exact hk_29A w0 p m x g o hg
  ·exact hk_29B w0 p m x g o cap _ hg (by omega) (by omega) hcap hc2
    (kinds_at (a :: b :: ns) hcell hkk 2 _ 23 (by omega) (fun j hj => by
     have e : (a :: b :: ns)[2 + j]'(by omega) = ns[j]'(by omega) := by simp [Nat.add_comm 2 j]
     rw [e]
     exact hns _ (List.getElem_mem _)))
 ·replace e1 : k = 0 := e1
  replace e2 : kids = ops ++ defs ++ [mn] := e2
  replace hm : m = ops.length := hm
  subst e1 e2 hm
  obtain ⟨g, o, cap, ks, rfl, hcap, hg, hcell, hkk⟩ := hk.cells (by simp)
  have hll : (ops ++ defs ++ [mn]).length = ops.length + defs.length + 1 := by simp; omega
  have h1 := kinds_at (ops ++ defs ++ [mn]) hcell hkk 0 ops.length 1 (by omega) (fun j hj => by
   have e : (ops ++ defs ++ [mn])[0 + j]'(by omega) = ops[j] := by
    simp only [Nat.zero_add]
    rw [List.getElem_append_left (by simp; omega), List.getElem_append_left hj]
   rw [e]
   exact ho _ (List.getElem_mem _))
  have h2 := kinds_at (ops ++ defs ++ [mn]) hcell hkk ops.length defs.length 2 (by omega) (fun j hj => by
   have e : (ops ++ defs ++ [mn])[ops.length + j]'(by omega) = defs[j] := by
    rw [List.getElem_append_left (by simp; omega), List.getElem_append_right (by omega)]
    simp
   rw [e]
   exact hd _ (List.getElem_mem _))
  rw [Nat.zero_mul, Nat.add_zero] at h1
  exact hk_0 w0 p x g o cap _ ops.length hg (by omega) (by omega) hcap h1 (by rw [show (ops ++ defs ++ [mn]).length - 1 - ops.length = defs.length by omega]; exact h2)

def cnt : Nat → Tr → Nat
 | 0, _ => 0
 | n + 1, t => 1 + (t.kids.map (cnt n)).sum
def Snd : Nat → Tr → Prop
 | 0, _ => False
 | n + 1, t => t.name.length ≤ 20 ∧ t.kids.length ≤ 90000 ∧ sK t ∧ ∀ q ∈ t.kids, Snd n q
def SoOK (n : Nat) : Prop := ∀ (t : Tr), Snd n t → ∀ (w0 : World) (v : Value), Ki w0 v t.kids → ∀ (b : Nat), w0.heap.size ≤ b → ∀ (w : World) (left : Int), Below w0.heap.size w0 w → w.heap[b]? = some (.cells #[.int .i64 left] 3 (0, 0)) → (cnt n t : Int) ≤ left → left ≤ 1000000 →
 Calls Tryz.prog 46 #[nodeV t v, .pointer (some ⟨b, 0, none⟩)] w fun e w' => e = .returned (.bool true) ∧ Hid (SoP w0 w w' b (left - cnt n t))
theorem sum_take (f : Tr → Nat) (l : List Tr) (j : Nat) (h : j < l.length) : ((l.take (j + 1)).map f).sum = ((l.take j).map f).sum + f l[j] := by
 rw [List.take_succ_eq_append_getElem h, List.map_append, List.sum_append]
 simp only [List.map_cons, List.map_nil, List.sum_cons, List.sum_nil, Nat.add_zero]
theorem sum_mono (f : Tr → Nat) (l : List Tr) (j : Nat) : ((l.take j).map f).sum ≤ ((l.take (j + 1)).map f).sum := by
 by_cases h : j < l.length
 ·rw [sum_take f l j h]; omega
 ·rw [List.take_of_length_le (by omega), List.take_of_length_le (by omega)]
  exact Nat.le_refl _
theorem sum_all (f : Tr → Nat) (l : List Tr) (j : Nat) : ((l.take j).map f).sum ≤ (l.map f).sum := by
 have := congrArg (fun x => (x.map f).sum) (List.take_append_drop j l)
 simp only [List.map_append, List.sum_append] at this
 omega
theorem sound_any : ∀ n, SoOK n := by
 intro n
 induction n with
 | zero => intro t ht; exact ht.elim
 | succ n ih =>
  intro t ht w0 v hk b hb w left hn hctr hl1 hl2
  obtain ⟨hx, hlen, hs, hq⟩ := ht
  obtain ⟨a, c, rfl⟩ := hk.slice
  have hK := hkids_any t hs hlen w0 _ hk
  have e : (t.kids.take t.kids.length) = t.kids := List.take_length
  have hcnt : cnt (n + 1) t = 1 + ((t.kids.take t.kids.length).map (cnt n)).sum := by rw [e]; rfl
  have hLc : t.kids.length ≤ c := by
   by_cases h0 : t.kids = []
   ·rw [h0]; simp
   ·obtain ⟨g, o, cap, ks, hv, hcap, _⟩ := hk.cells h0
    simp only [Value.slice.injEq] at hv
    omega
  have key := sound_step w0 t.kind t.pos t.num t.name t.kids.length c b a hb hx hLc hlen hK (fun j => ((t.kids.take j).map (cnt n)).sum)
   (fun h0 => by
    obtain ⟨g, o, cap, ks, hv, hcap, hg, hcell, hkk⟩ := hk.cells (List.length_pos_iff.1 h0)
    simp only [Value.slice.injEq] at hv
    refine ⟨g, o, hv.1, hg, fun j hj => ?_⟩
    obtain ⟨a2, c2, h2⟩ := (hkk j hj).slice
    have h1 := hcell j hj
    rw [h2] at h1
    refine ⟨_, _, _, _, _, _, _, h1, fun w left hn hctr hl1 hl2 => ?_⟩
    have e2 : ((((t.kids.take (j + 1)).map (cnt n)).sum : Nat) : Int) - (((t.kids.take j).map (cnt n)).sum : Nat) = cnt n t.kids[j] := by
     rw [sum_take (cnt n) t.kids j hj]; omega
    rw [e2] at hl1 ⊢
    have h3 := ih t.kids[j] (hq _ (List.getElem_mem hj)) w0 _ (hkk j hj) b hb w left hn hctr hl1 hl2
    rw [h2] at h3
    exact h3)
   (by simp) (fun j => sum_mono _ _ j) (fun j _ => by rw [e]; exact sum_all _ _ _) w left hn hctr (by rw [hcnt] at hl1; omega) hl2
  rw [hcnt]
  have e3 : (left - (((1 + ((t.kids.take t.kids.length).map (cnt n)).sum : Nat)) : Int)) = left - (1 + (((t.kids.take t.kids.length).map (cnt n)).sum : Nat)) := by omega
  rw [e3]
  exact key

theorem Sound_any (n : Nat) (t : Tr) (ht : Snd n t) (hc : cnt n t ≤ 6000) (v : Value) (w : World) (hk : Ki w v t.kids) :
  Calls Tryz.prog 19 #[nodeV t v] w fun e w' => e = .returned (.bool true) ∧ Hid (Below w.heap.size w w') := by
 have HS := hid (fun (W : World) (b : Nat) (hb : w.heap.size ≤ b) (hn : Below w.heap.size w W) (hctr : W.heap[b]? = some (.cells #[.int .i64 6000] 3 (0, 0))) => sound_any n t ht w v hk b hb W 6000 hn hctr (by omega) (by omega))
 unfold nodeV at HS ⊢
 generalize (t.kind : Int) = k at HS
 generalize (t.pos : Int) = p at HS
 generalize t.num = m at HS
 go_enter Tryz.func19, Tryz.ntmps19
 go_wp2_with fail
 refine (HS.out _ _ (by omega) (((Below.refl w.heap.size w).alloc (Nat.le_refl _) _).alloc (by simp) _) (by
  have := heap_alloc_new (w.alloc (.cells #[.int .i64 k, .int .i64 p, .string ⟨t.name.toArray⟩, .int .i64 m, v] 24)) (.cells #[.int .i64 6000] 3)
  simpa using this)).mono ?_
 rintro e w1 ⟨rfl, HP⟩
 go_wp2_with fail
 go_ret
 exact ⟨rfl, HP.out.new⟩

open Go.RowKit
open Sy (Tr)

theorem joinT_any {B b : Nat} {l : List (List UInt8)} {W : World} (h : PrAt B b l W) (hl : l.length ≤ 1000000) (hlen : (Lib.join l [32]).length ≤ 1000000000) :
  ∃ a k c, W.cell? ⟨b, 0, none⟩ = some (.slice a k c) ∧ Calls Tryz.prog 21 #[.slice a k c, .string ⟨#[32]⟩] W fun e w' => e = .returned (.string ⟨(Lib.join l [32]).toArray⟩) ∧ Hid (Below W.heap.size W w') := by
 obtain ⟨hB, v, hv, ⟨hn, hown⟩, _⟩ := h
 have hcell : W.cell? ⟨b, 0, none⟩ = some v := by simp [World.cell?, hv]
 rcases hown with ⟨rfl, h0⟩ | ⟨g, cap, cur, rfl, hBg, hg, hcap, hmx, hsz, htk⟩
 ·have hl0 : l = [] := List.length_eq_zero_iff.1 h0
  subst hl0
  refine ⟨_, _, _, hcell, (Tryz.strings_Join_none none 0 ⟨#[32]⟩ W).mono ?_⟩
  rintro e w' ⟨rfl, rfl⟩
  exact ⟨rfl, Below.refl _ _⟩
 ·refine ⟨_, _, _, hcell, ?_⟩
  have hm : (l.map fun x => (⟨x.toArray⟩ : ByteArray)).length = l.length := by simp
  have hmm : (l.map fun x => (⟨x.toArray⟩ : ByteArray)).map (·.data.toList) = l := by simp [Function.comp_def]
  have hlt : g < W.heap.size := lt_of_obj hg
  have := Tryz.strings_Join g 0 cap (l.map fun x => (⟨x.toArray⟩ : ByteArray)) ⟨#[32]⟩ W (fun j x hj => by
    have hj2 : j < l.length := by have := (List.getElem?_eq_some_iff.1 hj).1; simpa using this
    rw [cell_of_row _ g (0 + j) cur 9 (0, 0) hg]
    have h1 : (cur.toList.take (l.length * 1))[j]? = (l.map strV)[j]? := by rw [htk]
    rw [List.getElem?_take_of_lt (by omega)] at h1
    rw [Nat.zero_add, ← Array.getElem?_toList, h1]
    simp [List.getElem?_eq_getElem hj2] at hj ⊢
    rw [← hj]
    rfl) hlt (by rw [hm]; omega) (by rw [hm]; exact hcap) (by
    rw [hmm]
    show (Lib.join l [32]).length ≤ _
    omega)
  rw [hm, hmm] at this
  refine this.mono ?_
  rintro e w' ⟨rfl, hb⟩
  exact ⟨rfl, hb⟩

theorem Print_any (n m : Nat) (t : Tr) (hs : Snd n t) (hc : cnt n t ≤ 6000) (ht : Wp m t) (hl : (tk m t).length ≤ 900000) (hlen : (Lib.join (tk m t) [32]).length ≤ 1000000000) (v : Value) (w : World) (hT : TabW w) (hk : Ki w v t.kids) :
  Calls Tryz.prog 9 #[nodeV t v] w fun e w' => StrRes w (Lib.join (tk m t) [32]) e w' := by
 have HSO := hid (fun (W : World) (hb : Below w.heap.size w W) => Sound_any n t hs hc v W (hk.past hb))
 have HWP := hid (fun (B b : Nat) (hB : w.heap.size ≤ B) => wp_ok0 (b := b) (prn_any m) ht hT hB hk)
 have HJ := hid (fun (B b : Nat) (W : World) (h : PrAt B b (tk m t) W) => joinT_any h (by omega) hlen)
 generalize Lib.join (tk m t) [32] = res at HJ ⊢
 generalize tk m t = ts at HWP HJ hl
 obtain ⟨sa, sc, rfl⟩ := hk.slice
 unfold nodeV at HSO HWP ⊢
 generalize t.kids.length = L at HSO HWP
 generalize (t.kind : Int) = k at HSO HWP
 generalize (t.pos : Int) = p at HSO HWP
 generalize t.num = q at HSO HWP
 generalize t.name = x at HSO HWP
 clear hs hc ht hlen hT hk
 obtain ⟨W0, hW0⟩ : ∃ W, W = w.alloc (.cells #[.int .i64 k, .int .i64 p, .string ⟨x.toArray⟩, .int .i64 q, .slice sa L sc] 24) := ⟨_, rfl⟩
 have HB0 : Hid (Below w.heap.size w W0) := by rw [hW0]; exact (Below.refl _ _).alloc (Nat.le_refl _) _
 have b0 : W0.cell? ⟨w.heap.size, 0, none⟩ = some (.int .i64 k) := by rw [hW0]; simp [go_sem]
 have b1 : W0.cell? ⟨w.heap.size, 1, none⟩ = some (.int .i64 p) := by rw [hW0]; simp [go_sem]
 have b2 : W0.cell? ⟨w.heap.size, 2, none⟩ = some (.string ⟨x.toArray⟩) := by rw [hW0]; simp [go_sem]
 have b3 : W0.cell? ⟨w.heap.size, 3, none⟩ = some (.int .i64 q) := by rw [hW0]; simp [go_sem]
 have b4 : W0.cell? ⟨w.heap.size, 4, none⟩ = some (.slice sa L sc) := by rw [hW0]; simp [go_sem]
 have hH : w.heap.size < W0.heap.size := World.block_lt_of_cell? W0 ⟨w.heap.size, 4, none⟩ b4
 go_enter Tryz.func9, Tryz.ntmps9
 go_upto_region 1 with fail
 rw [← hW0]
 clear hW0
 go_wp2_with fail
 refine (HSO.out _ HB0.out).mono ?_
 rintro e w1 ⟨rfl, HB1⟩
 have HN1 := hid (HB0.out.trans (HB1.out.mono HB0.out.size))
 have c0 := past_cells HB1.out hH b0
 have c1 := past_cells HB1.out hH b1
 have c2 := past_cells HB1.out hH b2
 have c3 := past_cells HB1.out hH b3
 have c4 := past_cells HB1.out hH b4
 clear b0 b1 b2 b3 b4
 have hHw : w.heap.size < w1.heap.size := Nat.lt_of_lt_of_le hH HB1.out.size
 obtain ⟨X, hX⟩ : ∃ X, X = w1.alloc (.cells #[.slice none 0 0] 48) := ⟨_, rfl⟩
 have HBX : Hid (Below w1.heap.size w1 X) := by rw [hX]; exact (Below.refl _ _).alloc (Nat.le_refl _) _
 have HNX := hid (HN1.out.trans (HBX.out.mono HN1.out.size))
 have HPX : Hid (PrAt w1.heap.size w1.heap.size [] X) := by
  rw [hX]
  exact ⟨Nat.le_refl _, .slice none 0 0, heap_alloc_new w1 _, ⟨rfl, .inl ⟨rfl, rfl⟩⟩, by simp [Value.ownBlock]⟩
 have d0 := past_cells HBX.out hHw c0
 have d1 := past_cells HBX.out hHw c1
 have d2 := past_cells HBX.out hHw c2
 have d3 := past_cells HBX.out hHw c3
 have d4 := past_cells HBX.out hHw c4
 clear c0 c1 c2 c3 c4
 go_upto_region 4 with fail
 rw [← hX]
 clear hX
 go_wp2_with fail
 refine (HWP.out w1.heap.size w1.heap.size HN1.out.size _ [] HBX.out.size HNX.out HPX.out (by simpa using hl)).mono ?_
 rintro e w2 ⟨rfl, P1, P2, P3⟩
 rw [List.nil_append] at P1
 obtain ⟨a, kk, cc, e1, HJJ⟩ := HJ.out _ _ _ P1.out
 have HJ2 := hid HJJ
 clear HJJ
 go_wp2_with fail
 refine HJ2.out.mono ?_
 rintro e w3 ⟨rfl, HB3⟩
 go_wp2_with fail
 go_ret
 refine ⟨rfl, ?_⟩
 have h2 : Below w.heap.size w w2 := HNX.out.trans (P2.out.mono HN1.out.size)
 exact h2.trans (HB3.out.mono h2.size)
end Go.Proofs.YtoajnlhegallpaaGreatDoor
