/-
  What a reader reads are types, expressions and programs that may have been read, to their height: plain laws, no program is named here.
  What a reader reads are expressions and programs that may have been read: plain laws, no program is named here.
  Every text that the printer's tokens are made of is one token: plain laws, no program is named here.
  A program that was read and is written is read again as the same tree, and written the same: plain laws, no program is named here.
-/
import Derived.Test.YtoajnlhegallpaaGreatDoorMAg
import Derived.Test.YtoajnlhegallpaaGreatDoorMUc
set_option linter.unusedVariables false
set_option linter.unusedSimpArgs false
namespace Go.Proofs.YtoajnlhegallpaaGreatDoor
namespace Sy
open Lx
variable {z : Env} {N : Nat}

theorem high_kid {t a : Tr} (h : a ∈ t.kids) : high a < high t := by
 cases t with
 | mk k p x m l =>
  have := highL_mem l a h
  rw [high]
  omega
theorem gt_map {n m : Nat} {t : Tr} (h : Gt (n + 1) t) (f : ∀ a, high a < high t → Gt n a → Gt m a) : Gt (m + 1) t := by
 have hkid : ∀ a ∈ t.kids, high a < high t := fun a ha => high_kid ha
 obtain ⟨h1, h2, h⟩ := h
 refine ⟨h1, h2, ?_⟩
 rcases h with h | ⟨hk, a, e, ha⟩ | ⟨hk, a, b, e, ha, hb⟩ | ⟨hk, a, b, ns, e, ha, hb, hq⟩
 ·exact .inl h
 ·exact .inr (.inl ⟨hk, a, e, f a (hkid a (by simp [e])) ha⟩)
 ·exact .inr (.inr (.inl ⟨hk, a, b, e, f a (hkid a (by simp [e])) ha, f b (hkid b (by simp [e])) hb⟩))
 ·exact .inr (.inr (.inr ⟨hk, a, b, ns, e, f a (hkid a (by simp [e])) ha, f b (hkid b (by simp [e])) hb, hq⟩))
theorem Gt.le : ∀ {n m : Nat} {T : Tr}, Gt n T → n ≤ m → Gt m T := by
 intro n
 induction n with
 | zero => intro m T h; exact h.elim
 | succ n ih =>
  intro m T h hm
  obtain ⟨m, rfl⟩ : ∃ k, m = k + 1 := ⟨m - 1, by omega⟩
  exact gt_map h fun a _ ha => ih ha (by omega)
theorem Gt.high : ∀ {n : Nat} {T : Tr}, Gt n T → Gt (high T) T := by
 intro n
 induction n with
 | zero => intro T h; exact h.elim
 | succ n ih =>
  intro T h
  obtain ⟨m, hm⟩ : ∃ k, YtoajnlhegallpaaGreatDoor.high T = k + 1 := ⟨YtoajnlhegallpaaGreatDoor.high T - 1, by have := high_pos T; omega⟩
  rw [hm]
  exact gt_map h fun a hl ha => (ih ha).le (by omega)
theorem ge_map {n m : Nat} {t : Tr} (h : Ge (n + 1) t) (f : ∀ a, high a < high t → Ge n a → Ge m a) : Ge (m + 1) t := by
 have hkid : ∀ a ∈ t.kids, high a < high t := fun a ha => high_kid ha
 rcases h with h | h | h | h | ⟨hk, hx, hm, a, e, ha⟩ | ⟨hk, hx, a, e, ha⟩ | ⟨hk, hx, a, b, e, ha, hb⟩ | ⟨hk, hm, hx, a, b, e, ha, hb⟩ | ⟨hk, hm, hx, g, a, b, e, fk, fx, fm, fl, hf, ha, hb⟩ | ⟨hk, hx, a, b, c, e, ha, hb, hc⟩ | ⟨hk, hx, a, b, c, d, q, e, hc, hd, ha, hb, hq⟩ | ⟨hk, hm, hx, a, b, e, ha, hb⟩ | ⟨hk, hx, hm, a, r, q, cs, e, rk, rx, rm, rl, ha, hq, hcs⟩
 ·exact .inl h
 ·exact .inr (.inl h)
 ·exact .inr (.inr (.inl h))
 ·exact .inr (.inr (.inr (.inl h)))
 ·exact .inr (.inr (.inr (.inr (.inl ⟨hk, hx, hm, a, e, f a (hkid a (by simp [e])) ha⟩))))
 ·exact .inr (.inr (.inr (.inr (.inr (.inl ⟨hk, hx, a, e, f a (hkid a (by simp [e])) ha⟩)))))
 ·exact .inr (.inr (.inr (.inr (.inr (.inr (.inl ⟨hk, hx, a, b, e, f a (hkid a (by simp [e])) ha, f b (hkid b (by simp [e])) hb⟩))))))
 ·exact .inr (.inr (.inr (.inr (.inr (.inr (.inr (.inl ⟨hk, hm, hx, a, b, e, f a (hkid a (by simp [e])) ha, f b (hkid b (by simp [e])) hb⟩)))))))
 ·have h1 := hkid g (by simp [e])
  have h2 : high a < high g := high_kid (by simp [fl])
  exact .inr (.inr (.inr (.inr (.inr (.inr (.inr (.inr (.inl ⟨hk, hm, hx, g, a, b, e, fk, fx, fm, fl, f g h1 hf, f a (by omega) ha, f b (hkid b (by simp [e])) hb⟩))))))))
 ·exact .inr (.inr (.inr (.inr (.inr (.inr (.inr (.inr (.inr (.inl ⟨hk, hx, a, b, c, e, f a (hkid a (by simp [e])) ha, f b (hkid b (by simp [e])) hb, f c (hkid c (by simp [e])) hc⟩)))))))))
 ·exact .inr (.inr (.inr (.inr (.inr (.inr (.inr (.inr (.inr (.inr (.inl ⟨hk, hx, a, b, c, d, q, e, hc, hd, f a (hkid a (by simp [e])) ha, f b (hkid b (by simp [e])) hb, f q (hkid q (by simp [e])) hq⟩))))))))))
 ·exact .inr (.inr (.inr (.inr (.inr (.inr (.inr (.inr (.inr (.inr (.inr (.inl ⟨hk, hm, hx, a, b, e, f a (hkid a (by simp [e])) ha, f b (hkid b (by simp [e])) hb⟩)))))))))))
 ·have h1 := hkid r (by simp [e])
  have h2 : high q < high r := high_kid (by simp [rl])
  refine .inr (.inr (.inr (.inr (.inr (.inr (.inr (.inr (.inr (.inr (.inr (.inr ⟨hk, hx, hm, a, r, q, cs, e, rk, rx, rm, rl, f a (hkid a (by simp [e])) ha, f q (by omega) hq, ?_⟩)))))))))))
  intro u hu
  obtain ⟨g1, g2, g3, x, y, c, g4, g5, g6, g7⟩ := hcs u hu
  have h3 := hkid u (by simp [e, hu])
  have h4 : high c < high u := high_kid (by simp [g4])
  exact ⟨g1, g2, g3, x, y, c, g4, g5, g6, f c (by omega) g7⟩
theorem Ge.le : ∀ {n m : Nat} {T : Tr}, Ge n T → n ≤ m → Ge m T := by
 intro n
 induction n with
 | zero => intro m T h; exact h.elim
 | succ n ih =>
  intro m T h hm
  obtain ⟨m, rfl⟩ : ∃ k, m = k + 1 := ⟨m - 1, by omega⟩
  exact ge_map h fun a _ ha => ih ha (by omega)
theorem Ge.high : ∀ {n : Nat} {T : Tr}, Ge n T → Ge (high T) T := by
 intro n
 induction n with
 | zero => intro T h; exact h.elim
 | succ n ih =>
  intro T h
  obtain ⟨m, hm⟩ : ∃ k, YtoajnlhegallpaaGreatDoor.high T = k + 1 := ⟨YtoajnlhegallpaaGreatDoor.high T - 1, by have := high_pos T; omega⟩
  rw [hm]
  exact ge_map h fun a hl ha => (ih ha).le (by omega)

/- to no height that is named -/
def GE (T : Tr) : Prop := ∃ n, Ge n T
def GT (T : Tr) : Prop := ∃ n, Gt n T
def TkG (ts : List Tk) : Prop := ∀ t ∈ ts, (t.kind = 2 → NmOK t.text) ∧ (t.kind = 1 → t.num ≤ 9223372036854775807)
theorem TkG.tail {ts : List Tk} (h : TkG ts) : TkG ts.tail := fun t ht => h t (List.mem_of_mem_tail ht)
theorem g_ite {α : Type} {x : List UInt8} {ts : List Tk} {yes no : List Tk → R α} {Q : α → List Tk → Prop} (hk : TkG ts) (hy : ∀ ts', TkG ts' → Post (yes ts') Q) (hn : Post (no ts) Q) : Post (iteB z x ts yes no) Q := by
 unfold iteB
 exact post_look fun t ht => post_if (fun e => hy _ hk.tail) (fun _ => hn)
theorem g_need {x : List UInt8} {ts : List Tk} (hk : TkG ts) : Post (needB z x ts) (fun _ ts' => TkG ts') := by
 unfold needB
 exact post_look fun t ht => post_if (fun e => post_ok hk.tail) (fun _ => post_err)
theorem g_name {ts : List Tk} (hk : TkG ts) : Post (kindB z 2 ts) (fun t ts' => NmOK t.text ∧ TkG ts') := by
 unfold kindB
 refine post_look fun t ht => post_if (fun e => ?_) (fun _ => post_err)
 obtain ⟨r, hr⟩ := kind_cons ht (by decide) e
 exact post_ok ⟨(hk t (by rw [hr]; simp)).1 (by simpa using e), hk.tail⟩
theorem g_num {ts : List Tk} (hk : TkG ts) : Post (kindB z 1 ts) (fun t ts' => t.num ≤ 9223372036854775807 ∧ TkG ts') := by
 unfold kindB
 refine post_look fun t ht => post_if (fun e => ?_) (fun _ => post_err)
 obtain ⟨r, hr⟩ := kind_cons ht (by decide) e
 exact post_ok ⟨(hk t (by rw [hr]; simp)).2 (by simpa using e), hk.tail⟩
theorem g_take {ts : List Tk} (hk : TkG ts) : Post (takeB z ts) (fun _ ts' => TkG ts') := by
 unfold takeB
 exact post_look fun t ht => post_ok hk.tail
theorem g_named {ts : List Tk} (hk : TkG ts) : Post (namedB z ts) (fun a ts' => NmT a ∧ TkG ts') := by
 unfold namedB
 exact post_bnd (g_name hk) fun t ts' h => post_ok ⟨⟨rfl, rfl, rfl, h.1⟩, h.2⟩
def QG (a : Tr) (ts : List Tk) : Prop := GE a ∧ TkG ts
def QH (a : Tr) (ts : List Tk) : Prop := GT a ∧ TkG ts
def RG (F : List Tk → R Tr) : Prop := ∀ ts, TkG ts → Post (F ts) QG
def RH (F : List Tk → R Tr) : Prop := ∀ ts, TkG ts → Post (F ts) QH

/- types -/
theorem gt_one {p : Nat} {a : Tr} (ha : GT a) : GT (nd 27 p [a]) := by
 obtain ⟨n, ha⟩ := ha
 exact ⟨n + 1, rfl, rfl, .inr (.inl ⟨rfl, a, rfl, ha⟩)⟩
theorem gt_two {p : Nat} {a b : Tr} (ha : GT a) (hb : GT b) : GT (nd 28 p [a, b]) := by
 obtain ⟨n, ha⟩ := ha
 obtain ⟨m, hb⟩ := hb
 exact ⟨max n m + 1, rfl, rfl, .inr (.inr (.inl ⟨rfl, a, b, rfl, ha.le (by omega), hb.le (by omega)⟩))⟩
theorem gt_arr {p : Nat} {a b : Tr} {ns : List Tr} (ha : GT a) (hb : GT b) (hq : ∀ q ∈ ns, NmT q) : GT (nd 29 p ([a, b] ++ ns)) := by
 obtain ⟨n, ha⟩ := ha
 obtain ⟨m, hb⟩ := hb
 exact ⟨max n m + 1, rfl, rfl, .inr (.inr (.inr ⟨rfl, a, b, ns, rfl, ha.le (by omega), hb.le (by omega), hq⟩))⟩
theorem gt_leaf {k p : Nat} (hk : k = 24 ∨ k = 25 ∨ k = 26) : GT (nd k p []) := ⟨1, rfl, rfl, .inl ⟨hk, rfl⟩⟩
theorem g_row : ∀ (n : Nat) (l : List Tr) (ts : List Tk), TkG ts → (∀ q ∈ l, NmT q) → Post (rowB z n l ts) (fun l' ts' => (∀ q ∈ l', NmT q) ∧ TkG ts') := by
 intro n
 induction n with
 | zero => intro l ts _ _; exact post_look fun _ _ => post_err
 | succ n ih =>
  intro l ts hk hl
  rw [rowB]
  refine post_bnd (g_named hk) fun x ts1 h1 => ?_
  have hl' : ∀ q ∈ l ++ [x], NmT q := by
   intro q hq
   rcases List.mem_append.1 hq with hq | hq
   ·exact hl q hq
   ·rw [List.mem_singleton.1 hq]; exact h1.1
  exact g_ite h1.2 (fun ts2 h2 => ih _ ts2 h2 hl') (post_ok ⟨hl', h1.2⟩)
theorem g_lists : ∀ (n : Nat) (a : Tr) (ts : List Tk), QH a ts → Post (listsB z n a ts) QH := by
 intro n
 induction n with
 | zero => intro a ts _; exact post_look fun _ _ => post_err
 | succ n ih =>
  intro a ts h
  rw [listsB]
  exact g_ite h.2 (fun ts1 h1 => ih _ ts1 ⟨gt_one h.1, h1⟩) (post_ok h)
theorem g_tatom {T : List Tk → R Tr} (hT : RH T) : RH (tatomB z T) := by
 intro ts hk
 unfold tatomB
 refine post_look fun t ht => post_if (fun e => ?_) (fun _ => post_if (fun e => ?_) (fun _ => post_if (fun e => ?_) (fun _ => post_if (fun e => ?_) (fun _ => post_err))))
 ·exact post_bnd (hT _ hk.tail) fun a ts1 h1 => post_bnd (g_need h1.2) fun _ ts2 h2 => post_ok ⟨h1.1, h2⟩
 all_goals exact post_ok ⟨gt_leaf (by omega), hk.tail⟩
theorem g_some {T : List Tk → R Tr} (hT : RH T) : RH (someB z N T) := by
 intro ts hk
 unfold someB
 exact post_bnd (g_tatom hT ts hk) fun a ts1 h1 => g_lists N a ts1 h1
theorem g_pairT {T : List Tk → R Tr} (hT : RH T) : ∀ n, RH (pairB z N T n) := by
 intro n
 induction n with
 | zero => intro ts _; exact post_look fun _ _ => post_err
 | succ n ih =>
  intro ts hk
  rw [pairB]
  exact post_bnd (g_some hT ts hk) fun a ts1 h1 => g_ite h1.2 (fun ts2 h2 => post_bnd (ih ts2 h2) fun b ts3 h3 => post_ok ⟨gt_two h1.1 h3.1, h3.2⟩) (post_ok h1)
theorem g_typBody {T : List Tk → R Tr} (hT : RH T) : RH (typBodyB z N T) := by
 intro ts hk
 unfold typBodyB
 refine post_bnd (g_pairT hT N ts hk) fun a ts1 h1 => g_ite h1.2 (fun ts2 h2 => ?_) (g_ite h1.2 (fun ts2 h2 => ?_) (post_ok h1))
 ·exact post_bnd (g_need h2) fun _ ts3 h3 => post_bnd (g_row N [] ts3 h3 (by simp)) fun l ts4 h4 => post_bnd (g_need h4.2) fun _ ts5 h5 => post_bnd (g_need h5) fun _ ts6 h6 => post_bnd (hT ts6 h6) fun b ts7 h7 => post_ok ⟨gt_arr h1.1 h7.1 h4.1, h7.2⟩
 ·exact post_bnd (hT ts2 h2) fun b ts3 h3 => post_ok ⟨gt_arr (ns := []) h1.1 h3.1 (by simp), h3.2⟩
theorem g_typ : ∀ n, RH (typB z N n) := by
 intro n
 induction n with
 | zero => intro ts _; exact post_look fun _ _ => post_err
 | succ n ih =>
  intro ts hk
  rw [typB]
  exact post_look fun _ _ => g_typBody ih ts hk
end Sy

namespace Sy
open Lx
variable {z : Env} {N : Nat}

theorem ge_int {p : Nat} {m : Int} (h : -9223372036854775807 ≤ m ∧ m ≤ 9223372036854775807) : GE (.mk 3 p [] m []) := ⟨1, .inl ⟨rfl, rfl, rfl, h⟩⟩
theorem ge_bool {p : Nat} {m : Int} (h : m = 0 ∨ m = 1) : GE (.mk 4 p [] m []) := ⟨1, .inr (.inl ⟨rfl, rfl, rfl, h⟩)⟩
theorem ge_leaf {k p : Nat} (h : k = 5 ∨ k = 15) : GE (nd k p []) := ⟨1, .inr (.inr (.inl ⟨h, ⟨rfl, rfl⟩, rfl⟩))⟩
theorem ge_var {p : Nat} {x : List UInt8} (h : NmOK x) : GE (nm 6 p x []) := ⟨1, .inr (.inr (.inr (.inl ⟨rfl, h, rfl, rfl⟩)))⟩
theorem ge_nm1 {k p : Nat} {x : List UInt8} {a : Tr} (hk : k = 7 ∨ k = 19) (hx : NmOK x) (ha : GE a) : GE (nm k p x [a]) := by
 obtain ⟨n, ha⟩ := ha
 exact ⟨n + 1, .inr (.inr (.inr (.inr (.inl ⟨hk, hx, rfl, a, rfl, ha⟩))))⟩
theorem ge_one {k p : Nat} {a : Tr} (hk : k = 13 ∨ k = 14) (ha : GE a) : GE (nd k p [a]) := by
 obtain ⟨n, ha⟩ := ha
 exact ⟨n + 1, .inr (.inr (.inr (.inr (.inr (.inl ⟨hk, ⟨rfl, rfl⟩, a, rfl, ha⟩)))))⟩
theorem ge_two {k p : Nat} {a b : Tr} (hk : k = 8 ∨ k = 10 ∨ k = 12 ∨ k = 16) (ha : GE a) (hb : GE b) : GE (nd k p [a, b]) := by
 obtain ⟨n, ha⟩ := ha
 obtain ⟨m, hb⟩ := hb
 exact ⟨max n m + 1, .inr (.inr (.inr (.inr (.inr (.inr (.inl ⟨hk, ⟨rfl, rfl⟩, a, b, rfl, ha.le (by omega), hb.le (by omega)⟩))))))⟩
theorem ge_let {p : Nat} {x : List UInt8} {a b : Tr} (hx : NmOK x) (ha : GE a) (hb : GE b) : GE (.mk 9 p x 0 [a, b]) := by
 obtain ⟨n, ha⟩ := ha
 obtain ⟨m, hb⟩ := hb
 exact ⟨max n m + 1, .inr (.inr (.inr (.inr (.inr (.inr (.inr (.inl ⟨rfl, rfl, hx, a, b, rfl, ha.le (by omega), hb.le (by omega)⟩)))))))⟩
def Fn1 (f : Tr) : Prop := f.kind = 7 ∧ NmOK f.name ∧ f.num = 0 ∧ ∃ a, f.kids = [a] ∧ GE a
theorem Fn1.ge {f : Tr} (h : Fn1 f) : GE f := by
 obtain ⟨k, p, x, m, l⟩ := f
 obtain ⟨h1, h2, h3, a, h4, n, ha⟩ := h
 exact ⟨n + 1, .inr (.inr (.inr (.inr (.inl ⟨.inl h1, h2, h3, a, h4, ha⟩))))⟩
theorem ge_rec {p : Nat} {x : List UInt8} {f b : Tr} (hx : NmOK x) (hf : Fn1 f) (hb : GE b) : GE (.mk 9 p x 1 [f, b]) := by
 obtain ⟨n, hF⟩ := hf.ge
 obtain ⟨h1, h2, h3, a, h4, k, ha⟩ := hf
 obtain ⟨m, hb⟩ := hb
 exact ⟨max n (max k m) + 1, .inr (.inr (.inr (.inr (.inr (.inr (.inr (.inr (.inl ⟨rfl, rfl, hx, f, a, b, rfl, h1, h2, h3, h4, hF.le (by omega), ha.le (by omega), hb.le (by omega)⟩))))))))⟩
theorem ge_if {p : Nat} {a b c : Tr} (ha : GE a) (hb : GE b) (hc : GE c) : GE (nd 11 p [a, b, c]) := by
 obtain ⟨n, ha⟩ := ha
 obtain ⟨m, hb⟩ := hb
 obtain ⟨k, hc⟩ := hc
 exact ⟨max n (max m k) + 1, .inr (.inr (.inr (.inr (.inr (.inr (.inr (.inr (.inr (.inl ⟨rfl, ⟨rfl, rfl⟩, a, b, c, rfl, ha.le (by omega), hb.le (by omega), hc.le (by omega)⟩)))))))))⟩
theorem ge_case {p : Nat} {a b c d e : Tr} (ha : GE a) (hb : GE b) (hc : NmT c) (hd : NmT d) (he : GE e) : GE (nd 17 p [a, b, c, d, e]) := by
 obtain ⟨n, ha⟩ := ha
 obtain ⟨m, hb⟩ := hb
 obtain ⟨k, he⟩ := he
 exact ⟨max n (max m k) + 1, .inr (.inr (.inr (.inr (.inr (.inr (.inr (.inr (.inr (.inr (.inl ⟨rfl, ⟨rfl, rfl⟩, a, b, c, d, e, rfl, hc, hd, ha.le (by omega), hb.le (by omega), he.le (by omega)⟩))))))))))⟩
theorem ge_op {x : List UInt8} {a b : Tr} (hx : x = [43] ∨ x = [45] ∨ x = [42] ∨ x = [60] ∨ x = [61, 61]) (ha : GE a) (hb : GE b) : GE (op2 x a b) := by
 obtain ⟨n, ha⟩ := ha
 obtain ⟨m, hb⟩ := hb
 exact ⟨max n m + 1, .inr (.inr (.inr (.inr (.inr (.inr (.inr (.inr (.inr (.inr (.inr (.inl ⟨rfl, rfl, hx, a, b, rfl, ha.le (by omega), hb.le (by omega)⟩)))))))))))⟩
def Cl1 (q : Tr) : Prop := q.kind = 22 ∧ NmOK q.name ∧ q.num = 0 ∧ ∃ x y c, q.kids = [x, y, c] ∧ NmT x ∧ NmT y ∧ GE c
theorem cl_up : ∀ (cs : List Tr), (∀ q ∈ cs, Cl1 q) → ∃ n, ∀ m, n ≤ m → ∀ q ∈ cs, q.kind = 22 ∧ NmOK q.name ∧ q.num = 0 ∧ ∃ x y c, q.kids = [x, y, c] ∧ NmT x ∧ NmT y ∧ Ge m c := by
 intro cs
 induction cs with
 | nil => intro _; exact ⟨0, fun m _ q hq => by cases hq⟩
 | cons q cs ih =>
  intro h
  obtain ⟨n, hn⟩ := ih (fun q hq => h q (by simp [hq]))
  obtain ⟨h1, h2, h3, x, y, c, h4, h5, h6, k, h7⟩ := h q (by simp)
  refine ⟨max n k, fun m hm u hu => ?_⟩
  rcases List.mem_cons.1 hu with rfl | hu
  ·exact ⟨h1, h2, h3, x, y, c, h4, h5, h6, h7.le (by omega)⟩
  ·exact hn m (by omega) u hu
def Rt1 (r : Tr) : Prop := r.kind = 21 ∧ NmOK r.name ∧ r.num = 0 ∧ ∃ e, r.kids = [e] ∧ GE e
theorem ge_handle {p : Nat} {m : Int} {a r : Tr} {cs : List Tr} (hm : m = 0 ∨ m = 1) (ha : GE a) (hr : Rt1 r) (hcs : ∀ q ∈ cs, Cl1 q) : GE (.mk 20 p [] m (a :: r :: cs)) := by
 obtain ⟨n, ha⟩ := ha
 obtain ⟨h1, h2, h3, e, h4, k, he⟩ := hr
 obtain ⟨j, hj⟩ := cl_up cs hcs
 exact ⟨max n (max k j) + 1, .inr (.inr (.inr (.inr (.inr (.inr (.inr (.inr (.inr (.inr (.inr (.inr ⟨rfl, rfl, hm, a, r, e, cs, rfl, h1, h2, h3, h4, ha.le (by omega), he.le (by omega), hj _ (by omega)⟩)))))))))))⟩

theorem g_squares {E : List Tk → R Tr} (hE : RG E) : ∀ (n : Nat) (l : List Tr) (ts : List Tk), TkG ts → (∀ q ∈ l, GE q) → Post (squaresB z E n l ts) (fun l' ts' => (∀ q ∈ l', GE q) ∧ TkG ts') := by
 intro n
 induction n with
 | zero => intro l ts _ _; exact post_look fun _ _ => post_err
 | succ n ih =>
  intro l ts hk hl
  rw [squaresB]
  refine post_bnd (hE ts hk) fun x ts1 h1 => ?_
  have hl' : ∀ q ∈ l ++ [x], GE q := by
   intro q hq
   rcases List.mem_append.1 hq with hq | hq
   ·exact hl q hq
   ·rw [List.mem_singleton.1 hq]; exact h1.1
  exact g_ite h1.2 (fun ts2 h2 => ih _ ts2 h2 hl') (post_ok ⟨hl', h1.2⟩)
theorem g_consUp (p : Nat) : ∀ (l : List Tr), (∀ q ∈ l, GE q) → GE (consUp l (nd 15 p [])) := by
 intro l
 induction l with
 | nil => intro _; exact ge_leaf (.inr rfl)
 | cons a l ih =>
  intro h
  exact ge_two (by omega) (h a (by simp)) (ih fun q hq => h q (by simp [hq]))
theorem g_square {E : List Tk → R Tr} (hE : RG E) (p : Nat) : RG (squareB z N E p) := by
 intro ts hk
 unfold squareB
 exact g_ite hk (fun ts1 h1 => post_ok ⟨ge_leaf (.inr rfl), h1⟩) (post_bnd (g_squares hE N [] ts hk (by simp)) fun l ts1 h1 => post_bnd (g_need h1.2) fun _ ts2 h2 => post_ok ⟨g_consUp p l h1.1, h2⟩)
theorem g_round {E : List Tk → R Tr} (hE : RG E) (p : Nat) : RG (roundB z E p) := by
 intro ts hk
 unfold roundB
 exact g_ite hk (fun ts1 h1 => post_ok ⟨ge_leaf (.inl rfl), h1⟩) (post_bnd (hE ts hk) fun a ts1 h1 => g_ite h1.2 (fun ts2 h2 => post_bnd (hE ts2 h2) fun b ts3 h3 => post_bnd (g_need h3.2) fun _ ts4 h4 => post_ok ⟨ge_two (by omega) h1.1 h3.1, h4⟩) (post_bnd (g_need h1.2) fun _ ts4 h4 => post_ok ⟨h1.1, h4⟩))
theorem g_atom {E : List Tk → R Tr} (hE : RG E) : RG (atomB z N E) := by
 intro ts hk
 unfold atomB
 refine post_look fun t ht => post_if (fun e => ?_) (fun _ => post_if (fun e => ?_) (fun _ => post_if (fun e => ?_) (fun _ => post_if (fun e => ?_) (fun _ => post_if (fun e => ?_) (fun _ => post_if (fun e => ?_) (fun _ => post_if (fun e => ?_) (fun _ => post_err)))))))
 ·obtain ⟨r, hr⟩ := kind_cons ht (by decide) e
  exact post_ok ⟨ge_var ((hk t (by rw [hr]; simp)).1 (by simpa using e)), hk.tail⟩
 ·obtain ⟨r, hr⟩ := kind_cons ht (by decide) e
  have := (hk t (by rw [hr]; simp)).2 (by simpa using e)
  exact post_ok ⟨ge_int (by omega), hk.tail⟩
 ·exact post_bnd (g_num hk.tail) fun u ts1 h1 => post_ok ⟨ge_int (by have := h1.1; omega), h1.2⟩
 ·exact post_ok ⟨ge_bool (.inr rfl), hk.tail⟩
 ·exact post_ok ⟨ge_bool (.inl rfl), hk.tail⟩
 ·exact g_round hE _ _ hk.tail
 ·exact g_square hE _ _ hk.tail
theorem g_apps {E : List Tk → R Tr} (hE : RG E) : ∀ (n : Nat) (a : Tr) (ts : List Tk), QG a ts → Post (appsB z N E n a ts) QG := by
 intro n
 induction n with
 | zero => intro a ts _; exact post_look fun _ _ => post_err
 | succ n ih =>
  intro a ts h
  rw [appsB]
  exact post_look fun t _ => post_if (fun _ => post_bnd (g_atom hE ts h.2) fun b ts1 h1 => ih _ ts1 ⟨ge_two (by omega) h.1 h1.1, h1.2⟩) (fun _ => post_ok h)
theorem g_app {E : List Tk → R Tr} (hE : RG E) : RG (appB z N E) := by
 intro ts hk
 unfold appB
 refine post_look fun t ht => post_if (fun e => ?_) (fun _ => post_if (fun e => ?_) (fun _ => post_if (fun e => ?_) (fun _ => ?_)))
 ·exact post_bnd (g_name hk.tail) fun x ts1 h1 => post_bnd (g_atom hE ts1 h1.2) fun a ts2 h2 => post_ok ⟨ge_nm1 (.inr rfl) h1.1 h2.1, h2.2⟩
 ·exact post_bnd (g_atom hE _ hk.tail) fun a ts2 h2 => post_ok ⟨ge_one (.inl rfl) h2.1, h2.2⟩
 ·exact post_bnd (g_atom hE _ hk.tail) fun a ts2 h2 => post_ok ⟨ge_one (.inr rfl) h2.1, h2.2⟩
 ·exact post_bnd (g_atom hE ts hk) fun a ts1 h1 => g_apps hE N a ts1 h1
theorem g_muls {E : List Tk → R Tr} (hE : RG E) : ∀ (n : Nat) (a : Tr) (ts : List Tk), QG a ts → Post (mulsB z N E n a ts) QG := by
 intro n
 induction n with
 | zero => intro a ts _; exact post_look fun _ _ => post_err
 | succ n ih =>
  intro a ts h
  rw [mulsB]
  exact g_ite h.2 (fun ts1 h1 => post_bnd (g_app hE ts1 h1) fun b ts2 h2 => ih _ ts2 ⟨ge_op (.inr (.inr (.inl rfl))) h.1 h2.1, h2.2⟩) (post_ok h)
theorem g_mul {E : List Tk → R Tr} (hE : RG E) : RG (mulB z N E) := by
 intro ts hk
 unfold mulB
 exact post_bnd (g_app hE ts hk) fun a ts1 h1 => g_muls hE N a ts1 h1
theorem g_sums {E : List Tk → R Tr} (hE : RG E) : ∀ (n : Nat) (a : Tr) (ts : List Tk), QG a ts → Post (sumsB z N E n a ts) QG := by
 intro n
 induction n with
 | zero => intro a ts _; exact post_look fun _ _ => post_err
 | succ n ih =>
  intro a ts h
  rw [sumsB]
  refine post_look fun t ht => post_if (fun e => ?_) (fun _ => post_ok h)
  have hx : t.text = [43] ∨ t.text = [45] := by
   rcases Bool.or_eq_true_iff.1 e with e | e
   ·exact .inl (by simpa [s_plus] using e)
   ·exact .inr (by simpa [s_minus] using e)
  exact post_bnd (g_mul hE _ h.2.tail) fun b ts2 h2 => ih _ ts2 ⟨ge_op (by rcases hx with hx | hx <;> simp [hx]) h.1 h2.1, h2.2⟩
theorem g_sum {E : List Tk → R Tr} (hE : RG E) : RG (sumB z N E) := by
 intro ts hk
 unfold sumB
 exact post_bnd (g_mul hE ts hk) fun a ts1 h1 => g_sums hE N a ts1 h1
theorem g_cons {E : List Tk → R Tr} (hE : RG E) : ∀ n, RG (consB z N E n) := by
 intro n
 induction n with
 | zero => intro ts _; exact post_look fun _ _ => post_err
 | succ n ih =>
  intro ts hk
  rw [consB]
  exact post_bnd (g_sum hE ts hk) fun a ts1 h1 => g_ite h1.2 (fun ts2 h2 => post_bnd (ih ts2 h2) fun b ts3 h3 => post_ok ⟨ge_two (by omega) h1.1 h3.1, h3.2⟩) (post_ok h1)
theorem g_comp {E : List Tk → R Tr} (hE : RG E) : RG (compB z N E) := by
 intro ts hk
 unfold compB
 refine post_bnd (g_cons hE N ts hk) fun a ts1 h1 => post_look fun t ht => post_if (fun e => ?_) (fun _ => post_ok h1)
 have hx : t.text = [61, 61] ∨ t.text = [60] := by
  rcases Bool.or_eq_true_iff.1 e with e | e
  ·exact .inl (by simpa [s_eqeq] using e)
  ·exact .inr (by simpa [s_lt] using e)
 exact post_bnd (g_cons hE N _ h1.2.tail) fun b ts2 h2 => post_ok ⟨ge_op (by rcases hx with hx | hx <;> simp [hx]) h1.1 h2.1, h2.2⟩
theorem g_seq {E : List Tk → R Tr} (hE : RG E) : RG (seqB z N E) := by
 intro ts hk
 unfold seqB
 exact post_bnd (g_comp hE ts hk) fun a ts1 h1 => g_ite h1.2 (fun ts2 h2 => post_bnd (hE ts2 h2) fun b ts3 h3 => post_ok ⟨ge_two (by omega) h1.1 h3.1, h3.2⟩) (post_ok h1)
theorem g_names (least : Nat) : ∀ (n : Nat) (l ts : List Tk), TkG ts → (∀ t ∈ l, NmOK t.text) → Post (namesB z least n l ts) (fun l' ts' => (∀ t ∈ l', NmOK t.text) ∧ least ≤ l'.length ∧ TkG ts') := by
 intro n
 induction n with
 | zero => intro l ts _ _; exact post_look fun _ _ => post_err
 | succ n ih =>
  intro l ts hk hl
  rw [namesB]
  have step : Post (bnd (kindB z 2 ts) fun t ts => namesB z least n (l ++ [t]) ts) (fun l' ts' => (∀ t ∈ l', NmOK t.text) ∧ least ≤ l'.length ∧ TkG ts') := by
   refine post_bnd (g_name hk) fun t ts1 h1 => ih (l ++ [t]) ts1 h1.2 (fun u hu => ?_)
   rcases List.mem_append.1 hu with hu | hu
   ·exact hl u hu
   ·rw [List.mem_singleton.1 hu]; exact h1.1
  exact post_if (fun _ => step) (fun hlt => post_look fun t _ => post_if (fun _ => step) (fun _ => post_ok ⟨hl, by omega, hk⟩))
theorem g_fns {b : Tr} (hb : GE b) : ∀ (l : List Tk), (∀ t ∈ l, NmOK t.text) → GE (fns l b) ∧ (l ≠ [] → Fn1 (fns l b)) := by
 intro l
 induction l with
 | nil => intro _; exact ⟨hb, fun h => absurd rfl h⟩
 | cons t l ih =>
  intro h
  have i := (ih (fun u hu => h u (by simp [hu]))).1
  exact ⟨ge_nm1 (.inl rfl) (h t (by simp)) i, fun _ => ⟨rfl, h t (by simp), rfl, _, rfl, i⟩⟩
theorem g_bind {E : List Tk → R Tr} (hE : RG E) (least : Nat) (ts : List Tk) (hk : TkG ts) :
  Post (bindB z N E least ts) (fun d ts' => (d.1 = 0 ∨ d.1 = 1) ∧ NmOK d.2.1 ∧ GE d.2.2 ∧ ((d.1 = 1 ∨ 1 ≤ least) → Fn1 d.2.2) ∧ TkG ts') := by
 unfold bindB
 refine g_ite hk (fun ts1 h1 => ?_) ?_
 ·refine post_bnd (g_name h1) fun x ts2 h2 => post_bnd (g_names 1 N [] ts2 h2.2 (by simp)) fun l ts3 h3 => post_bnd (g_need h3.2.2) fun _ ts4 h4 => post_bnd (hE ts4 h4) fun b ts5 h5 => post_ok ?_
  obtain ⟨f1, f2⟩ := g_fns h5.1 l h3.1
  exact ⟨.inr rfl, h2.1, f1, fun _ => f2 (List.length_pos_iff.1 h3.2.1), h5.2⟩
 ·refine post_bnd (g_name hk) fun x ts2 h2 => post_bnd (g_names least N [] ts2 h2.2 (by simp)) fun l ts3 h3 => post_bnd (g_need h3.2.2) fun _ ts4 h4 => post_bnd (hE ts4 h4) fun b ts5 h5 => post_ok ?_
  obtain ⟨f1, f2⟩ := g_fns h5.1 l h3.1
  refine ⟨.inl rfl, h2.1, f1, fun h => f2 (List.length_pos_iff.1 ?_), h5.2⟩
  rcases h with h | h
  ·cases h
  ·have := h3.2.1; omega
theorem g_let {E : List Tk → R Tr} (hE : RG E) : RG (letB z N E) := by
 intro ts hk
 unfold letB
 refine post_bnd (g_take hk) fun t ts1 h1 => post_bnd (g_bind hE 0 ts1 h1) fun d ts2 h2 => post_bnd (g_need h2.2.2.2.2) fun _ ts3 h3 => post_bnd (hE ts3 h3) fun b ts4 h4 => post_ok ⟨?_, h4.2⟩
 obtain ⟨d1, d2, d3, d4, d5⟩ := h2
 rcases d1 with e | e
 ·rw [e]; exact ge_let d2 d3 h4.1
 ·rw [e]; exact ge_rec d2 (d4 (.inl e)) h4.1
theorem Fn1.at {f : Tr} (h : Fn1 f) (p : Nat) : Fn1 (f.at p) := by
 obtain ⟨k, q, x, m, l⟩ := f
 exact h
theorem g_fn {E : List Tk → R Tr} (hE : RG E) : RG (fnB z N E) := by
 intro ts hk
 unfold fnB
 refine post_bnd (g_take hk) fun t ts1 h1 => post_bnd (g_names 1 N [] ts1 h1 (by simp)) fun l ts2 h2 => post_bnd (g_need h2.2.2) fun _ ts3 h3 => post_bnd (hE ts3 h3) fun b ts4 h4 => post_ok ⟨?_, h4.2⟩
 exact (((g_fns h4.1 l h2.1).2 (List.length_pos_iff.1 h2.2.1)).at _).ge
theorem g_if {E : List Tk → R Tr} (hE : RG E) : RG (ifB z E) := by
 intro ts hk
 unfold ifB
 exact post_bnd (g_take hk) fun t ts1 h1 => post_bnd (hE ts1 h1) fun a ts2 h2 => post_bnd (g_need h2.2) fun _ ts3 h3 => post_bnd (hE ts3 h3) fun b ts4 h4 => post_bnd (g_need h4.2) fun _ ts5 h5 => post_bnd (hE ts5 h5) fun c ts6 h6 => post_ok ⟨ge_if h2.1 h4.1 h6.1, h6.2⟩
theorem g_cases {E : List Tk → R Tr} (hE : RG E) : RG (casesB z E) := by
 intro ts hk
 unfold casesB
 exact post_bnd (g_take hk) fun t ts1 h1 => post_bnd (hE ts1 h1) fun e ts2 h2 => post_bnd (g_need h2.2) fun _ ts3 h3 => post_bnd (g_need h3) fun _ ts4 h4 => post_bnd (g_need h4) fun _ ts5 h5 => post_bnd (g_need h5) fun _ ts6 h6 => post_bnd (hE ts6 h6) fun a ts7 h7 => post_bnd (g_need h7.2) fun _ ts8 h8 => post_bnd (g_named h8) fun x ts9 h9 => post_bnd (g_need h9.2) fun _ ts10 h10 => post_bnd (g_named h10) fun y ts11 h11 => post_bnd (g_need h11.2) fun _ ts12 h12 => post_bnd (hE ts12 h12) fun b ts13 h13 => post_bnd (g_need h13.2) fun _ ts14 h14 => post_ok ⟨ge_case h2.1 h7.1 h9.1 h11.1 h13.1, h14⟩
theorem g_ret {E : List Tk → R Tr} (hE : RG E) (ts : List Tk) (hk : TkG ts) : Post (retB z E ts) (fun a ts' => Rt1 a ∧ TkG ts') := by
 unfold retB
 exact post_look fun t _ => post_bnd (g_need hk) fun _ ts1 h1 => post_bnd (g_name h1) fun x ts2 h2 => post_bnd (g_need h2.2) fun _ ts3 h3 => post_bnd (hE ts3 h3) fun b ts4 h4 => post_ok ⟨⟨rfl, h2.1, rfl, b, rfl, h4.1⟩, h4.2⟩
theorem g_clause {E : List Tk → R Tr} (hE : RG E) (ts : List Tk) (hk : TkG ts) : Post (clauseB z E ts) (fun a ts' => Cl1 a ∧ TkG ts') := by
 unfold clauseB
 exact post_bnd (g_name hk) fun o ts1 h1 => post_bnd (g_named h1.2) fun y ts2 h2 => post_bnd (g_named h2.2) fun k ts3 h3 => post_bnd (g_need h3.2) fun _ ts4 h4 => post_bnd (hE ts4 h4) fun c ts5 h5 => post_ok ⟨⟨rfl, h1.1, rfl, y, k, c, rfl, h2.1, h3.1, h5.1⟩, h5.2⟩
theorem g_clauses {E : List Tk → R Tr} (hE : RG E) : ∀ (n : Nat) (l : List Tr) (ts : List Tk), TkG ts → Post (clausesB z E n l ts) (fun l' ts' => ∃ cs, l' = l ++ cs ∧ (∀ q ∈ cs, Cl1 q) ∧ TkG ts') := by
 intro n
 induction n with
 | zero => intro l ts _; exact post_look fun _ _ => post_err
 | succ n ih =>
  intro l ts hk
  rw [clausesB]
  refine g_ite hk (fun ts1 h1 => post_bnd (g_clause hE ts1 h1) fun c ts2 h2 => (ih _ ts2 h2.2).mono ?_) (post_ok ⟨[], by simp, by simp, hk⟩)
  rintro l' ts' ⟨cs, rfl, g1, g2⟩
  refine ⟨c :: cs, by simp, fun q hq => ?_, g2⟩
  rcases List.mem_cons.1 hq with rfl | hq
  ·exact h2.1
  ·exact g1 q hq
theorem g_handle {E : List Tk → R Tr} (hE : RG E) : RG (handleB z N E) := by
 intro ts hk
 unfold handleB
 refine post_bnd (g_take hk) fun t ts1 h1 => post_bnd (hE ts1 h1) fun e ts2 h2 => post_bnd (g_need h2.2) fun _ ts3 h3 => post_bnd (g_need h3) fun _ ts4 h4 => post_bnd (g_ret hE ts4 h4) fun r ts5 h5 => post_bnd (g_clauses hE N [e, r] ts5 h5.2) fun l ts6 h6 => ?_
 obtain ⟨cs, rfl, g1, g2⟩ := h6
 refine post_bnd (g_need g2) fun _ ts7 h7 => post_ok ⟨ge_handle ?_ h2.1 h5.1 g1, h7⟩
 split
 ·exact .inr rfl
 ·exact .inl rfl
theorem g_any {E : List Tk → R Tr} (hE : RG E) : RG (anyB z N E) := by
 intro ts hk
 unfold anyB
 exact post_look fun t ht => post_if (fun e => g_let hE ts hk) (fun _ => post_if (fun e => g_fn hE ts hk) (fun _ => post_if (fun e => g_if hE ts hk) (fun _ => post_if (fun e => g_cases hE ts hk) (fun _ => post_if (fun e => g_handle hE ts hk) (fun _ => g_seq hE ts hk)))))
theorem g_expr : ∀ n, RG (exprB z N n) := by
 intro n
 induction n with
 | zero => intro ts _; exact post_look fun _ _ => post_err
 | succ n ih =>
  intro ts hk
  rw [exprB]
  exact post_look fun _ _ => g_any ih ts hk

/- programs -/
def Op1 (q : Tr) : Prop := q.kind = 1 ∧ NmOK q.name ∧ (q.num = 0 ∨ q.num = 1) ∧ ∃ a b, q.kids = [a, b] ∧ GT a ∧ GT b
def De1 (q : Tr) : Prop := q.kind = 2 ∧ NmOK q.name ∧ (q.num = 0 ∨ q.num = 1) ∧ ∃ f, q.kids = [f] ∧ Fn1 f
theorem g_op (ts : List Tk) (hk : TkG ts) : Post (opB z N ts) (fun a ts' => Op1 a ∧ TkG ts') := by
 unfold opB
 refine post_bnd (g_take hk) fun t ts1 h1 => g_ite h1 (fun ts2 h2 => ?_) (post_bnd (g_need h1) fun _ ts2 h2 => ?_)
 all_goals refine post_bnd (g_name h2) fun x ts3 h3 => post_bnd (g_need h3.2) fun _ ts4 h4 => post_bnd (g_typ 200 ts4 h4) fun a ts5 h5 => post_bnd (g_need h5.2) fun _ ts6 h6 => post_bnd (g_typ 200 ts6 h6) fun b ts7 h7 => post_ok ⟨⟨rfl, h3.1, ?_, a, b, rfl, h5.1, h7.1⟩, h7.2⟩
 ·exact .inr rfl
 ·exact .inl rfl
theorem g_def (ts : List Tk) (hk : TkG ts) : Post (defB z N ts) (fun a ts' => De1 a ∧ TkG ts') := by
 unfold defB
 exact post_bnd (g_take hk) fun t ts1 h1 => post_bnd (g_bind (g_expr 200) 1 ts1 h1) fun d ts2 h2 => post_ok ⟨⟨rfl, h2.2.1, h2.1, d.2.2, rfl, h2.2.2.2.1 (.inr (by omega))⟩, h2.2.2.2.2⟩
theorem g_ops : ∀ (n : Nat) (l : List Tr) (ts : List Tk), TkG ts → Post (opsB z N n l ts) (fun l' ts' => ∃ cs, l' = l ++ cs ∧ (∀ q ∈ cs, Op1 q) ∧ TkG ts') := by
 intro n
 induction n with
 | zero => intro l ts _; exact post_look fun _ _ => post_err
 | succ n ih =>
  intro l ts hk
  rw [opsB]
  refine post_look fun t _ => post_if (fun e => post_bnd (g_op ts hk) fun c ts2 h2 => (ih _ ts2 h2.2).mono ?_) (fun _ => post_ok ⟨[], by simp, by simp, hk⟩)
  rintro l' ts' ⟨cs, rfl, g1, g2⟩
  refine ⟨c :: cs, by simp, fun q hq => ?_, g2⟩
  rcases List.mem_cons.1 hq with rfl | hq
  ·exact h2.1
  ·exact g1 q hq
theorem g_defs : ∀ (n : Nat) (l : List Tr) (ts : List Tk), TkG ts → Post (defsB z N n l ts) (fun l' ts' => ∃ cs, l' = l ++ cs ∧ (∀ q ∈ cs, De1 q) ∧ TkG ts') := by
 intro n
 induction n with
 | zero => intro l ts _; exact post_look fun _ _ => post_err
 | succ n ih =>
  intro l ts hk
  rw [defsB]
  refine post_look fun t _ => post_if (fun e => post_bnd (g_def ts hk) fun c ts2 h2 => (ih _ ts2 h2.2).mono ?_) (fun _ => post_ok ⟨[], by simp, by simp, hk⟩)
  rintro l' ts' ⟨cs, rfl, g1, g2⟩
  refine ⟨c :: cs, by simp, fun q hq => ?_, g2⟩
  rcases List.mem_cons.1 hq with rfl | hq
  ·exact h2.1
  ·exact g1 q hq
theorem g_prog (ts : List Tk) (hk : TkG ts) : Post (progB z N ts) (fun T _ => ∃ n, high T = n + 1 ∧ Gp n T) := by
 unfold progB
 refine post_bnd (g_ops N [] ts hk) fun o ts1 h1 => ?_
 obtain ⟨os, rfl, g1, g2⟩ := h1
 refine post_bnd (g_defs N _ ts1 g2) fun d ts2 h2 => ?_
 obtain ⟨ds, rfl, k1, k2⟩ := h2
 refine post_bnd (g_need k2) fun _ ts3 h3 => post_bnd (g_need h3) fun _ ts4 h4 => post_bnd (g_expr 200 ts4 h4) fun e ts5 h5 => post_bnd post_kind fun _ ts6 _ => post_ok ?_
 refine ⟨highL (o ++ ds ++ [e]), by rw [high]; omega, rfl, rfl, o, ds, e, rfl, rfl, ?_, fun q hq => ?_, fun q hq => ?_⟩
 ·obtain ⟨n, hn⟩ := h5.1
  exact hn.high.le (highL_mem _ e (by simp))
 ·obtain ⟨q1, q2, q3, a, b, q4, ⟨n, ha⟩, ⟨m, hb⟩⟩ := g1 q hq
  have h1 := highL_mem (o ++ ds ++ [e]) q (by simp [hq])
  have h2 : high a < high q := high_kid (by simp [q4])
  have h3 : high b < high q := high_kid (by simp [q4])
  exact ⟨q1, q2, q3, a, b, q4, ha.high.le (by omega), hb.high.le (by omega)⟩
 ·obtain ⟨q1, q2, q3, f, q4, f1, f2, f3, a, f4, n, ha⟩ := k1 q hq
  have h1 := highL_mem (o ++ ds ++ [e]) q (by simp [hq])
  have h2 : high f < high q := high_kid (by simp [q4])
  have h3 : high a < high f := high_kid (by simp [f4])
  exact ⟨q1, q2, q3, f, a, q4, f1, f2, f3, f4, ha.high.le (by omega)⟩
end Sy

namespace Sy
open Lx
theorem lxw_main : Lexes [109, 97, 105, 110] := lexes_name _ _ (by decide) (by decide) (by decide)
theorem lxw_fn : Lexes [102, 110] := lexes_name _ _ (by decide) (by decide) (by decide)
theorem lxw_let : Lexes [108, 101, 116] := lexes_name _ _ (by decide) (by decide) (by decide)
theorem lxw_rec : Lexes [114, 101, 99] := lexes_name _ _ (by decide) (by decide) (by decide)
theorem lxw_in : Lexes [105, 110] := lexes_name _ _ (by decide) (by decide) (by decide)
theorem lxw_if : Lexes [105, 102] := lexes_name _ _ (by decide) (by decide) (by decide)
theorem lxw_then : Lexes [116, 104, 101, 110] := lexes_name _ _ (by decide) (by decide) (by decide)
theorem lxw_else : Lexes [101, 108, 115, 101] := lexes_name _ _ (by decide) (by decide) (by decide)
theorem lxw_fst : Lexes [102, 115, 116] := lexes_name _ _ (by decide) (by decide) (by decide)
theorem lxw_snd : Lexes [115, 110, 100] := lexes_name _ _ (by decide) (by decide) (by decide)
theorem lxw_case : Lexes [99, 97, 115, 101] := lexes_name _ _ (by decide) (by decide) (by decide)
theorem lxw_of : Lexes [111, 102] := lexes_name _ _ (by decide) (by decide) (by decide)
theorem lxw_end : Lexes [101, 110, 100] := lexes_name _ _ (by decide) (by decide) (by decide)
theorem lxw_do : Lexes [100, 111] := lexes_name _ _ (by decide) (by decide) (by decide)
theorem lxw_handle : Lexes [104, 97, 110, 100, 108, 101] := lexes_name _ _ (by decide) (by decide) (by decide)
theorem lxw_shallow : Lexes [115, 104, 97, 108, 108, 111, 119] := lexes_name _ _ (by decide) (by decide) (by decide)
theorem lxw_with : Lexes [119, 105, 116, 104] := lexes_name _ _ (by decide) (by decide) (by decide)
theorem lxw_return : Lexes [114, 101, 116, 117, 114, 110] := lexes_name _ _ (by decide) (by decide) (by decide)
theorem lxw_true : Lexes [116, 114, 117, 101] := lexes_name _ _ (by decide) (by decide) (by decide)
theorem lxw_false : Lexes [102, 97, 108, 115, 101] := lexes_name _ _ (by decide) (by decide) (by decide)
theorem lxw_int : Lexes [105, 110, 116] := lexes_name _ _ (by decide) (by decide) (by decide)
theorem lxw_bool : Lexes [98, 111, 111, 108] := lexes_name _ _ (by decide) (by decide) (by decide)
theorem lxw_unit : Lexes [117, 110, 105, 116] := lexes_name _ _ (by decide) (by decide) (by decide)
theorem lxw_list : Lexes [108, 105, 115, 116] := lexes_name _ _ (by decide) (by decide) (by decide)
theorem lxw_op : Lexes [111, 112] := lexes_name _ _ (by decide) (by decide) (by decide)
theorem lxw_once : Lexes [111, 110, 99, 101] := lexes_name _ _ (by decide) (by decide) (by decide)
theorem lxw_many : Lexes [109, 97, 110, 121] := lexes_name _ _ (by decide) (by decide) (by decide)
theorem lxw_def : Lexes [100, 101, 102] := lexes_name _ _ (by decide) (by decide) (by decide)
theorem lxs_eq : Lexes [61] := lexes_sign (.inr ⟨61, by decide, rfl⟩)
theorem lxs_to : Lexes [61, 62] := lexes_sign (.inl (by decide))
theorem lxs_semi : Lexes [59] := lexes_sign (.inr ⟨59, by decide, rfl⟩)
theorem lxs_lp : Lexes [40] := lexes_sign (.inr ⟨40, by decide, rfl⟩)
theorem lxs_rp : Lexes [41] := lexes_sign (.inr ⟨41, by decide, rfl⟩)
theorem lxs_comma : Lexes [44] := lexes_sign (.inr ⟨44, by decide, rfl⟩)
theorem lxs_cons : Lexes [58, 58] := lexes_sign (.inl (by decide))
theorem lxs_ls : Lexes [91] := lexes_sign (.inr ⟨91, by decide, rfl⟩)
theorem lxs_rs : Lexes [93] := lexes_sign (.inr ⟨93, by decide, rfl⟩)
theorem lxs_bar : Lexes [124] := lexes_sign (.inr ⟨124, by decide, rfl⟩)
theorem lxs_lb : Lexes [123] := lexes_sign (.inr ⟨123, by decide, rfl⟩)
theorem lxs_rb : Lexes [125] := lexes_sign (.inr ⟨125, by decide, rfl⟩)
theorem lxs_star : Lexes [42] := lexes_sign (.inr ⟨42, by decide, rfl⟩)
theorem lxs_plus : Lexes [43] := lexes_sign (.inr ⟨43, by decide, rfl⟩)
theorem lxs_minus : Lexes [45] := lexes_sign (.inr ⟨45, by decide, rfl⟩)
theorem lxs_lt : Lexes [60] := lexes_sign (.inr ⟨60, by decide, rfl⟩)
theorem lxs_eqeq : Lexes [61, 61] := lexes_sign (.inl (by decide))
theorem lxs_arrow : Lexes [45, 62] := lexes_sign (.inl (by decide))
theorem lxs_colon : Lexes [58] := lexes_sign (.inr ⟨58, by decide, rfl⟩)
theorem lxs_tilde : Lexes [126] := lexes_sign (.inr ⟨126, by decide, rfl⟩)
def LxL (xs : List (List UInt8)) : Prop := ∀ x ∈ xs, Lexes x
theorem lxl_nil : LxL [] ↔ True := by simp [LxL]
theorem lxl_cons {x : List UInt8} {xs : List (List UInt8)} : LxL (x :: xs) ↔ Lexes x ∧ LxL xs := by simp [LxL]
theorem lxl_app {xs ys : List (List UInt8)} : LxL (xs ++ ys) ↔ LxL xs ∧ LxL ys := by
 simp only [LxL, List.mem_append]
 exact ⟨fun h => ⟨fun x hx => h x (.inl hx), fun x hx => h x (.inr hx)⟩, fun h x hx => hx.elim (h.1 x) (h.2 x)⟩
theorem lxl_flat {f : Tr → List (List UInt8)} {l : List Tr} (h : ∀ q ∈ l, LxL (f q)) : LxL (l.flatMap f) := by
 intro x hx
 obtain ⟨q, hq, hx⟩ := List.mem_flatMap.1 hx
 exact h q hq x hx
theorem lxl_in {f : Tr → List (List UInt8)} {t : Tr} {l : Int} (h : LxL (f t)) : LxL (inP f t l) := by
 unfold inP
 split
 ·exact h
 ·simp only [List.cons_append, lxl_cons, lxl_app, lxl_nil, h, lxs_lp, lxs_rp, and_self]
theorem lxl_num {m : Int} (h : -9223372036854775807 ≤ m ∧ m ≤ 9223372036854775807) : LxL (numTk m) := by
 have hd := dig_lexes m.natAbs (by omega)
 unfold numTk
 split
 ·simp only [lxl_cons, lxl_nil, lxs_tilde, hd, and_self]
 ·simp only [lxl_cons, lxl_nil, hd, and_self]
theorem lxl_typ : ∀ (n : Nat) (T : Tr), Gt n T → LxL (tk n T) := by
 intro n
 induction n with
 | zero => intro T h; exact h.elim
 | succ n ih =>
  rintro T ⟨_, _, h⟩
  rcases h with ⟨hk, _⟩ | ⟨hk, a, hl, ha⟩ | ⟨hk, a, b, hl, ha, hb⟩ | ⟨hk, a, b, ns, hl, ha, hb, hq⟩
  ·rcases hk with hk | hk | hk <;> simp [tk, hk, leafTk, lxl_cons, lxl_nil, lxw_int, lxw_bool, lxw_unit]
  ·have e : tk (n + 1) T = inP (tk n) a 2 ++ [[108, 105, 115, 116]] := by simp [tk, hk, hl]
   rw [e]
   simp only [lxl_app, lxl_cons, lxl_nil, lxw_list, lxl_in (ih a ha), and_self]
  ·have e : tk (n + 1) T = inP (tk n) a 2 ++ [[42]] ++ inP (tk n) b 1 := by simp [tk, hk, hl]
   rw [e]
   simp only [lxl_app, lxl_cons, lxl_nil, lxs_star, lxl_in (ih a ha), lxl_in (ih b hb), and_self]
  ·have e : tk (n + 1) T = inP (tk n) a 1 ++ arrTk (ns.map Tr.name) ++ tk n b := by simp [tk, hk, hl]
   rw [e]
   have hn : LxL (arrTk (ns.map Tr.name)) := by
    unfold arrTk
    cases ns with
    | nil => simp [lxl_cons, lxl_nil, lxs_arrow]
    | cons q r =>
     have h1 : LxL ((r.map Tr.name).flatMap fun y => [[44], y]) := by
      intro x hx
      obtain ⟨y, hy, hx⟩ := List.mem_flatMap.1 hx
      obtain ⟨u, hu, rfl⟩ := List.mem_map.1 hy
      simp only [List.mem_cons, List.not_mem_nil, or_false] at hx
      rcases hx with rfl | rfl
      ·exact lxs_comma
      ·exact (hq u (by simp [hu])).2.2.2.2.2.2
     have h2 : Lexes q.name := (hq q (by simp)).2.2.2.2.2.2
     simp only [List.map_cons, reduceCtorEq, if_false, rowTk, lxl_app, lxl_cons, lxl_nil, lxs_minus, lxs_lb, lxs_rb, lxs_arrow, h1, h2, and_self]
   simp only [lxl_app, lxl_in (ih a ha), ih b hb, hn, and_self]
theorem lxl_expr : ∀ (n : Nat) (T : Tr), Ge n T → LxL (tk n T) := by
 intro n
 induction n with
 | zero => intro T h; exact h.elim
 | succ n ih =>
  intro T h
  rcases h with ⟨hk, _, _, hm⟩ | ⟨hk, _, _, hm⟩ | ⟨hk, _⟩ | ⟨hk, hx, _⟩ | ⟨hk, hx, _, a, hl, ha⟩ | ⟨hk, _, a, hl, ha⟩ | ⟨hk, _, a, b, hl, ha, hb⟩ | ⟨hk, hm, hx, a, b, hl, ha, hb⟩ | ⟨hk, hm, hx, f, a, b, hl, fk, fx, fm, fl, hf, ha, hb⟩ | ⟨hk, _, a, b, c, hl, ha, hb, hc⟩ | ⟨hk, _, a, b, c, d, e, hl, hc, hd, ha, hb, he⟩ | ⟨hk, hm, hx, a, b, hl, ha, hb⟩ | ⟨hk, _, hm, a, r, e, cs, hl, rk, rx, rm, rl, ha, he, hcs⟩
  ·have e : tk (n + 1) T = numTk T.num := by simp [tk, hk]
   rw [e]
   exact lxl_num hm
  ·rcases hm with hm | hm <;> simp [tk, hk, hm, leafTk, lxl_cons, lxl_nil, lxw_true, lxw_false]
  ·rcases hk with hk | hk <;> simp [tk, hk, leafTk, lxl_cons, lxl_nil, lxs_lp, lxs_rp, lxs_ls, lxs_rs]
  ·have e : tk (n + 1) T = [T.name] := by simp [tk, hk, leafTk]
   rw [e]
   simp only [lxl_cons, lxl_nil, hx.2.2.2, and_self]
  ·rcases hk with hk | hk
   ·have e : tk (n + 1) T = [102, 110] :: T.name :: [61, 62] :: tk n a := by simp [tk, hk, hl]
    rw [e]
    simp only [lxl_cons, lxw_fn, hx.2.2.2, lxs_to, ih a ha, and_self]
   ·have e : tk (n + 1) T = [100, 111] :: T.name :: inP (tk n) a 6 := by simp [tk, hk, hl]
    rw [e]
    simp only [lxl_cons, lxw_do, hx.2.2.2, lxl_in (ih a ha), and_self]
  ·rcases hk with hk | hk
   ·have e : tk (n + 1) T = [102, 115, 116] :: inP (tk n) a 6 := by simp [tk, hk, hl]
    rw [e]
    simp only [lxl_cons, lxw_fst, lxl_in (ih a ha), and_self]
   ·have e : tk (n + 1) T = [115, 110, 100] :: inP (tk n) a 6 := by simp [tk, hk, hl]
    rw [e]
    simp only [lxl_cons, lxw_snd, lxl_in (ih a ha), and_self]
  ·rcases hk with hk | hk | hk | hk
   ·have e : tk (n + 1) T = (if a.kind = 8 then tk n a else inP (tk n) a 6) ++ inP (tk n) b 6 := by simp [tk, hk, hl]
    rw [e]
    have : LxL (if a.kind = 8 then tk n a else inP (tk n) a 6) := by
     split
     ·exact ih a ha
     ·exact lxl_in (ih a ha)
    simp only [lxl_app, this, lxl_in (ih b hb), and_self]
   ·have e : tk (n + 1) T = inP (tk n) a 1 ++ ([[59]] ++ tk n b) := by simp [tk, hk, hl]
    rw [e]
    simp only [lxl_app, lxl_cons, lxl_nil, lxs_semi, lxl_in (ih a ha), ih b hb, and_self]
   ·have e : tk (n + 1) T = [40] :: (tk n a ++ [44] :: (tk n b ++ [[41]])) := by simp [tk, hk, hl]
    rw [e]
    simp only [lxl_app, lxl_cons, lxl_nil, lxs_lp, lxs_rp, lxs_comma, ih a ha, ih b hb, and_self]
   ·have e : tk (n + 1) T = inP (tk n) a 3 ++ ([[58, 58]] ++ inP (tk n) b 2) := by simp [tk, hk, hl]
    rw [e]
    simp only [lxl_app, lxl_cons, lxl_nil, lxs_cons, lxl_in (ih a ha), lxl_in (ih b hb), and_self]
  ·have e : tk (n + 1) T = [108, 101, 116] :: T.name :: [61] :: (tk n a ++ [105, 110] :: tk n b) := by simp [tk, hk, hl, hm]
   rw [e]
   simp only [lxl_app, lxl_cons, lxw_let, lxw_in, lxs_eq, hx.2.2.2, ih a ha, ih b hb, and_self]
  ·have e : tk (n + 1) T = [108, 101, 116] :: [114, 101, 99] :: T.name :: f.name :: [61] :: (tk n a ++ [105, 110] :: tk n b) := by simp [tk, hk, hl, hm, kid0, fl]
   rw [e]
   simp only [lxl_app, lxl_cons, lxw_let, lxw_rec, lxw_in, lxs_eq, hx.2.2.2, fx.2.2.2, ih a ha, ih b hb, and_self]
  ·have e : tk (n + 1) T = [105, 102] :: (tk n a ++ [116, 104, 101, 110] :: (tk n b ++ [101, 108, 115, 101] :: tk n c)) := by simp [tk, hk, hl]
   rw [e]
   simp only [lxl_app, lxl_cons, lxw_if, lxw_then, lxw_else, ih a ha, ih b hb, ih c hc, and_self]
  ·have e : tk (n + 1) T = [99, 97, 115, 101] :: (tk n a ++ [111, 102] :: [91] :: [93] :: [61, 62] :: (tk n b ++ [124] :: c.name :: [58, 58] :: d.name :: [61, 62] :: (tk n e ++ [[101, 110, 100]]))) := by simp [tk, hk, hl]
   rw [e]
   simp only [lxl_app, lxl_cons, lxl_nil, lxw_case, lxw_of, lxs_ls, lxs_rs, lxs_to, lxs_bar, lxs_cons, lxw_end, hc.2.2.2.2.2.2, hd.2.2.2.2.2.2, ih a ha, ih b hb, ih _ he, and_self]
  ·have e : tk (n + 1) T = opTk T.name (tk n) a b := by simp [tk, hk, hl]
   rw [e]
   have hs : Lexes T.name := by
    rcases hx with hx | hx | hx | hx | hx <;> rw [hx]
    ·exact lxs_plus
    ·exact lxs_minus
    ·exact lxs_star
    ·exact lxs_lt
    ·exact lxs_eqeq
   unfold opTk
   split
   ·simp only [lxl_app, lxl_cons, lxl_nil, hs, lxl_in (ih a ha), lxl_in (ih b hb), and_self]
   ·split <;> simp only [lxl_app, lxl_cons, lxl_nil, hs, lxl_in (ih a ha), lxl_in (ih b hb), and_self]
  ·have e : tk (n + 1) T = (if T.num = 1 then [115, 104, 97, 108, 108, 111, 119] else [104, 97, 110, 100, 108, 101]) :: (tk n a ++ [119, 105, 116, 104] :: [123] :: [114, 101, 116, 117, 114, 110] :: r.name :: [61, 62] :: (tk n e ++ (cs.flatMap (fun q => [124] :: clauseTk (tk n) q) ++ [[125]]))) := by simp [tk, hk, hl, kid0, rl]
   rw [e]
   have h1 : Lexes (if T.num = 1 then [115, 104, 97, 108, 108, 111, 119] else [104, 97, 110, 100, 108, 101]) := by
    split
    ·exact lxw_shallow
    ·exact lxw_handle
   have h2 : LxL (cs.flatMap (fun q => [124] :: clauseTk (tk n) q)) := by
    refine lxl_flat fun q hq => ?_
    obtain ⟨_, q2, _, x, y, c, q4, q5, q6, q7⟩ := hcs q hq
    simp only [clauseTk, q4, List.getD_cons_zero, List.getD_cons_succ, List.cons_append, List.nil_append, lxl_cons, lxs_bar, lxs_to, q2.2.2.2, q5.2.2.2.2.2.2, q6.2.2.2.2.2.2, ih c q7, and_self]
   simp only [lxl_app, lxl_cons, lxl_nil, h1, h2, lxw_with, lxw_return, lxs_lb, lxs_rb, lxs_to, rx.2.2.2, ih a ha, ih _ he, and_self]
theorem lxl_prog {n : Nat} {T : Tr} (hT : Gp n T) : LxL (tk (n + 1) T) := by
 obtain ⟨hk, hx, os, ds, mn, hl, hm, hmn, hos, hds⟩ := hT
 have e0 : tk (n + 1) T = os.flatMap (itemTk (tk n)) ++ (ds.flatMap (itemTk (tk n)) ++ ([109, 97, 105, 110] :: [61] :: tk n mn)) := by
  have e1 : (os ++ ds ++ [mn]).dropLast = os ++ ds := by simp
  have e2 : (os ++ ds ++ [mn]).getLastD zT = mn := by simp
  simp only [tk, hk, hl, if_true, e1, e2]
  simp
 rw [e0]
 have h1 : LxL (os.flatMap (itemTk (tk n))) := by
  refine lxl_flat fun q hq => ?_
  obtain ⟨k1, k2, k3, a, b, k4, k5, k6⟩ := hos q hq
  have h3 : Lexes (if q.num = 1 then [111, 110, 99, 101] else [109, 97, 110, 121]) := by
   split
   ·exact lxw_once
   ·exact lxw_many
  simp only [itemTk, k1, if_true, k4, List.getD_cons_zero, List.getD_cons_succ, lxl_app, lxl_cons, lxl_nil, h3, lxw_op, lxs_colon, lxs_to, k2.2.2.2, lxl_typ n a k5, lxl_typ n b k6, and_self]
 have h2 : LxL (ds.flatMap (itemTk (tk n))) := by
  refine lxl_flat fun q hq => ?_
  obtain ⟨k1, k2, k3, f, a, k4, k5, k6, k7, k8, k9⟩ := hds q hq
  have e1 : kid0 q = f := by simp [kid0, k4]
  have e2 : kid0 f = a := by simp [kid0, k8]
  unfold itemTk
  rw [if_neg (by omega), e1, e2]
  split <;> simp only [lxl_app, lxl_cons, lxl_nil, lxw_def, lxw_rec, lxs_eq, k2.2.2.2, k6.2.2.2, lxl_expr n a k9, and_self]
 simp only [lxl_app, lxl_cons, h1, h2, lxw_main, lxs_eq, lxl_expr n mn hmn, and_self]
end Sy

namespace Sy
open Lx

/- what the lexer says of tokens -/
theorem tok_g (pos : Nat) (c : UInt8) (r : List UInt8) (t : Tk) (n : Nat) (h : tokAt pos (c :: r) = .ok (t, n)) : (t.kind = 2 → NmOK t.text) ∧ (t.kind = 1 → t.num ≤ 9223372036854775807) := by
 by_cases hd : isDig c = true
 ·rw [tokAt_dig pos c r hd] at h
  split at h
  ·rename_i ho
   simp only [Except.ok.injEq, Prod.mk.injEq] at h
   obtain ⟨rfl, _⟩ := h
   refine ⟨fun e => (by simp at e), fun _ => ?_⟩
   simp only [okNum, Bool.and_eq_true, decide_eq_true_eq] at ho
   exact ho.2
  ·cases h
 ·have hd' : isDig c = false := by simpa using hd
  by_cases hl : isLet c = true
  ·rw [tokAt_let pos c r hd' hl] at h
   split at h
   ·rename_i ho
    simp only [Except.ok.injEq, Prod.mk.injEq] at h
    obtain ⟨rfl, _⟩ := h
    have hn : isNm c = true := by simp [isNm, hl]
    have ht : (c :: r).takeWhile isNm = c :: r.takeWhile isNm := by simp [hn]
    by_cases hw : isWd ((c :: r).takeWhile isNm) = true
    ·simp only [hw, if_true]
     exact ⟨fun e => (by simp at e), fun e => (by simp at e)⟩
    ·have hw' : isWd ((c :: r).takeWhile isNm) = false := by simpa using hw
     simp only [hw', Bool.false_eq_true, if_false]
     refine ⟨fun _ => ?_, fun e => (by simp at e)⟩
     have hall : ∀ d ∈ (c :: r).takeWhile isNm, isNm d = true := fun d hd => List.all_eq_true.1 (List.all_takeWhile) d hd
     rw [ht] at ho hw' hall ⊢
     exact ⟨by simp [hl], by simp [hd'], hw', lexes_name c _ hl hall ho⟩
   ·cases h
  ·have hl' : isLet c = false := by simpa using hl
   by_cases hs : isSg c = true
   ·rw [tokAt_sg pos c r hd' hl' hs] at h
    simp only [Except.ok.injEq, Prod.mk.injEq] at h
    obtain ⟨rfl, _⟩ := h
    exact ⟨fun e => (by simp at e), fun e => (by simp at e)⟩
   ·have hs' : isSg c = false := by simpa using hs
    rw [tokAt_no pos c r hd' hl' hs'] at h
    cases h
theorem toks_g : ∀ (f pos : Nat) (l : List UInt8), TkG (toksF f pos l).1 := by
 intro f
 induction f with
 | zero => intro pos l t ht; simp [toksF] at ht
 | succ f ih =>
  intro pos l t ht
  cases l with
  | nil => simp [toksF] at ht
  | cons c r =>
   simp only [toksF] at ht
   split at ht
   ·exact ih _ _ t ht
   ·split at ht
    ·exact ih _ _ t ht
    ·cases hk : tokAt pos (c :: r) with
     | error e => rw [hk] at ht; simp at ht
     | ok v =>
      obtain ⟨t1, n⟩ := v
      rw [hk] at ht
      simp only [tcons, List.mem_cons] at ht
      rcases ht with rfl | ht
      ·exact tok_g pos c r _ n hk
      ·exact ih _ _ t ht
theorem lexes_len {x : List UInt8} (h : NmOK x) : x.length ≤ 20 := by
 obtain ⟨h1, h2, h3, h4, h5, h6⟩ := h
 cases x with
 | nil => exact absurd rfl h4
 | cons c r =>
  have hl : isLet c = true := by simpa using h1
  have hd : isDig c = false := by simpa using h2
  have := h6 0 [] (.inl rfl)
  rw [List.append_nil, tokAt_let 0 c r hd hl] at this
  split at this
  ·rename_i ho
   simp only [Except.ok.injEq, Prod.mk.injEq] at this
   rw [← this.2]
   exact ho
  ·cases this
theorem TkG.ok {ts : List Tk} (h : TkG ts) : TkOK ts := fun t ht => ⟨fun e => lexes_len ((h t ht).1 e), (h t ht).2⟩

/- trees that differ in their places alone -/
def Eqv (T U : Tr) : Prop := ∃ n, EqT n T U
theorem eqv_z : Eqv zT zT := ⟨1, rfl, rfl, rfl, rfl, fun i h => absurd h (by simp [zT, Tr.kids])⟩
theorem Eqv.kid {T U : Tr} (h : Eqv T U) (i : Nat) : Eqv (T.kids.getD i zT) (U.kids.getD i zT) := by
 obtain ⟨n, h⟩ := h
 cases n with
 | zero => exact h.elim
 | succ n =>
  obtain ⟨_, _, _, hl, hk⟩ := h
  by_cases hi : i < T.kids.length
  ·have hi' : i < U.kids.length := by omega
   rw [List.getD_eq_getElem?_getD, List.getD_eq_getElem?_getD, List.getElem?_eq_getElem hi, List.getElem?_eq_getElem hi']
   exact ⟨n, hk i hi hi'⟩
  ·rw [List.getD_eq_getElem?_getD, List.getD_eq_getElem?_getD, List.getElem?_eq_none (by omega), List.getElem?_eq_none (by omega)]
   exact eqv_z
theorem Eqv.top {T U : Tr} (h : Eqv T U) : T.kind = U.kind ∧ T.name = U.name ∧ T.num = U.num ∧ T.kids.length = U.kids.length := by
 obtain ⟨n, h⟩ := h
 cases n with
 | zero => exact h.elim
 | succ n => exact ⟨h.1, h.2.1, h.2.2.1, h.2.2.2.1⟩
inductive E2 : List Tr → List Tr → Prop where
 | nil : E2 [] []
 | cons {a b : Tr} {l m : List Tr} : Eqv a b → E2 l m → E2 (a :: l) (b :: m)
theorem E2.of : ∀ {l m : List Tr}, l.length = m.length → (∀ i, Eqv (l.getD i zT) (m.getD i zT)) → E2 l m := by
 intro l
 induction l with
 | nil =>
  intro m h _
  cases m with
  | nil => exact .nil
  | cons b m => cases h
 | cons a l ih =>
  intro m h hi
  cases m with
  | nil => cases h
  | cons b m => exact .cons (by simpa using hi 0) (ih (by simpa using h) fun i => by simpa using hi (i + 1))
theorem Eqv.kids {T U : Tr} (h : Eqv T U) : E2 T.kids U.kids := E2.of h.top.2.2.2 h.kid
theorem E2.flat {f : Tr → List (List UInt8)} (hf : ∀ a b, Eqv a b → f a = f b) {l m : List Tr} (h : E2 l m) : l.flatMap f = m.flatMap f := by
 induction h with
 | nil => rfl
 | cons h1 _ ih => simp only [List.flatMap_cons, ih, hf _ _ h1]
theorem E2.names {l m : List Tr} (h : E2 l m) : l.map Tr.name = m.map Tr.name := by
 induction h with
 | nil => rfl
 | cons h1 _ ih => simp only [List.map_cons, ih, h1.top.2.1]
theorem E2.drop {l m : List Tr} (h : E2 l m) : ∀ i, E2 (l.drop i) (m.drop i) := by
 induction h with
 | nil => intro i; simpa using E2.nil
 | cons h1 h2 ih =>
  intro i
  cases i with
  | zero => exact .cons h1 h2
  | succ i => simpa using ih i
theorem E2.dropLast {l m : List Tr} (h : E2 l m) : E2 l.dropLast m.dropLast := by
 induction h with
 | nil => exact .nil
 | cons h1 h2 ih =>
  cases h2 with
  | nil => exact .nil
  | cons h3 h4 => exact .cons h1 ih
theorem E2.last {l m : List Tr} (h : E2 l m) : Eqv (l.getLastD zT) (m.getLastD zT) := by
 induction h with
 | nil => exact eqv_z
 | cons h1 h2 ih =>
  cases h2 with
  | nil => exact h1
  | cons h3 h4 => simpa [List.getLastD_cons] using ih
theorem in_eq {f : Tr → List (List UInt8)} (hf : ∀ a b, Eqv a b → f a = f b) {a b : Tr} (h : Eqv a b) (l : Int) : inP f a l = inP f b l := by
 unfold inP
 rw [h.top.1, h.top.2.1, hf a b h]
theorem kid0_eq {a b : Tr} (h : Eqv a b) : Eqv (kid0 a) (kid0 b) := h.kid 0
theorem item_eq {f : Tr → List (List UInt8)} (hf : ∀ a b, Eqv a b → f a = f b) (a b : Tr) (h : Eqv a b) : itemTk f a = itemTk f b := by
 unfold itemTk
 rw [h.top.1, h.top.2.1, h.top.2.2.1, hf _ _ (h.kid 0), hf _ _ (h.kid 1), (kid0_eq h).top.2.1, hf _ _ (kid0_eq (kid0_eq h))]
theorem clause_eq {f : Tr → List (List UInt8)} (hf : ∀ a b, Eqv a b → f a = f b) (a b : Tr) (h : Eqv a b) : clauseTk f a = clauseTk f b := by
 unfold clauseTk
 rw [h.top.2.1, hf _ _ (h.kid 2), (h.kid 0).top.2.1, (h.kid 1).top.2.1]
theorem op_eq {f : Tr → List (List UInt8)} (hf : ∀ a b, Eqv a b → f a = f b) {a b c d : Tr} (h : Eqv a b) (h' : Eqv c d) (x : List UInt8) : opTk x f a c = opTk x f b d := by
 unfold opTk
 rw [in_eq hf h, in_eq hf h', in_eq hf h, in_eq hf h', in_eq hf h, in_eq hf h']
theorem tk_eq : ∀ (n : Nat) (T U : Tr), Eqv T U → tk n T = tk n U := by
 intro n
 induction n with
 | zero => intro T U _; rfl
 | succ n ih =>
  intro T U h
  have e0 := h.kid 0
  have e1 := h.kid 1
  unfold tk
  simp only []
  rw [h.top.1, h.top.2.1, h.top.2.2.1, h.kids.dropLast.flat (item_eq ih), ih _ _ h.kids.last, ih _ _ e0, ih _ _ e1, e0.top.1, e0.top.2.1, e1.top.2.1, ih _ _ (kid0_eq e0), ih _ _ (kid0_eq e1), ih _ _ (h.kid 2), ih _ _ (h.kid 4),
   in_eq ih e0, in_eq ih e0, in_eq ih e0, in_eq ih e0, in_eq ih e1, in_eq ih e1, in_eq ih e1, op_eq ih e0 e1, (h.kid 2).top.2.1, (h.kid 3).top.2.1, (h.kids.drop 2).names, (h.kids.drop 2).flat (fun a b hab => by rw [clause_eq ih a b hab])]
theorem highL_eq {P : Tr → Tr → Prop} (hP : ∀ a b, P a b → high a = high b) : ∀ (l m : List Tr), l.length = m.length → (∀ i (h : i < l.length) (h' : i < m.length), P l[i] m[i]) → highL l = highL m := by
 intro l
 induction l with
 | nil =>
  intro m h _
  cases m with
  | nil => rfl
  | cons b m => cases h
 | cons a l ih =>
  intro m h hi
  cases m with
  | nil => cases h
  | cons b m =>
   have h0 := hP a b (hi 0 (by simp) (by simp))
   have h1 := ih m (by simpa using h) fun i h h' => hi (i + 1) (by simpa using h) (by simpa using h')
   rw [highL, highL, h0, h1]
theorem high_eq : ∀ (n : Nat) (T U : Tr), EqT n T U → high T = high U := by
 intro n
 induction n with
 | zero => intro T U h; exact h.elim
 | succ n ih =>
  rintro ⟨k, p, x, m, l⟩ ⟨k', p', x', m', l'⟩ ⟨_, _, _, h4, h5⟩
  rw [high, high, highL_eq ih l l' h4 h5]

theorem read_again {n : Nat} (hn : n ≤ 200) {T : Tr} (hT : Gp n T) (hh : high T = n + 1) {z : Env} (hz : z.fin.1 = 0) {N : Nat} (us : List Tk) (hu : Ms (tk (n + 1) T) us) (hk : TkG us) (hN : us.length < N) :
  ∃ U k, EqT k T U ∧ progB z N us = .ok (U, []) ∧ Nice U ∧ U.kind = 0 ∧ nodes U ≤ 2 * us.length ∧ tk (high U) U = tk (n + 1) T := by
 obtain ⟨U, h1, h2⟩ := prog_read hz hn hT us hu hN
 obtain ⟨g1, g2, g3⟩ := (prog_nice us hk.ok).1 U [] h2
 refine ⟨U, _, h1, h2, g1, g2, g3, ?_⟩
 rw [← high_eq _ _ _ h1, hh]
 exact (tk_eq (n + 1) T U ⟨_, h1⟩).symm
def oneT : Tr := .mk 0 0 [] 0 [.mk 3 0 [] 1 []]
theorem oneT_ok : Gp 1 oneT ∧ high oneT = 2 ∧ tk 2 oneT = [[109, 97, 105, 110], [61], [49]] := by
 refine ⟨⟨rfl, rfl, [], [], .mk 3 0 [] 1 [], rfl, rfl, .inl ⟨rfl, rfl, rfl, by decide, by decide⟩, by simp, by simp⟩, by simp [oneT, high, highL], ?_⟩
 have e : dig 1 = [49] := by unfold dig; rfl
 simp [tk, oneT, Tr.kind, Tr.kids, Tr.num, numTk, e]
end Sy
end Go.Proofs.YtoajnlhegallpaaGreatDoor
