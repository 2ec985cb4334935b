/-
  The document's Check: shape, Takes, operand.
  The document's fun and Check, as plain functions.
-/
import Derived.Test.YtpjbfdpblgjmfaaGreatDoorMA
import Derived.Deep.Cut
import Derived.BigRegion
set_option linter.unusedVariables false
set_option linter.unusedSimpArgs false
namespace Go.Proofs.YtpjbfdpblgjmfaaGreatDoor
open Go.RowKit Go.Lib
namespace Cd
def leaf (c : UInt8) : Bool := c.toNat == 105 || c.toNat == 98 || c.toNat == 117 || c.toNat == 102 || c.toNat == 118
/-- Where a shape ends, of which so much is left; -1: there is none. -/
def shp : List UInt8 → Nat → Nat → Int
  | _, 0, k => k
  | [], _ + 1, _ => -1
  | c :: l, n + 1, k => if leaf c then shp l n (k + 1) else if c.toNat = 108 then shp l (n + 1) (k + 1) else if c.toNat = 112 then shp l (n + 2) (k + 1) else -1
theorem shp_leaf {c : UInt8} {l : List UInt8} {n k : Nat} (h : c.toNat = 105 ∨ c.toNat = 98 ∨ c.toNat = 117 ∨ c.toNat = 102 ∨ c.toNat = 118) : shp (c :: l) (n + 1) k = shp l n (k + 1) := by
  rw [shp, if_pos (by simp [leaf]; omega)]
theorem shp_l {c : UInt8} {l : List UInt8} {n k : Nat} (h : c.toNat = 108) : shp (c :: l) (n + 1) k = shp l (n + 1) (k + 1) := by
  rw [shp, if_neg (by simp [leaf]; omega), if_pos h]
theorem shp_p {c : UInt8} {l : List UInt8} {n k : Nat} (h : c.toNat = 112) : shp (c :: l) (n + 1) k = shp l (n + 2) (k + 1) := by
  rw [shp, if_neg (by simp [leaf]; omega), if_neg (by omega), if_pos h]
theorem shp_no {c : UInt8} {l : List UInt8} {n k : Nat} (h : c.toNat ≠ 105 ∧ c.toNat ≠ 98 ∧ c.toNat ≠ 117 ∧ c.toNat ≠ 102 ∧ c.toNat ≠ 118 ∧ c.toNat ≠ 108 ∧ c.toNat ≠ 112) : shp (c :: l) (n + 1) k = -1 := by
  rw [shp, if_neg (by simp [leaf]; omega), if_neg (by omega), if_neg (by omega)]
/-- How many values an instruction takes, of a code whose functions have caught so many and whose handlers have so many operations. -/
def takes (C : Code) (x : Ins) : Int × Int :=
  if x.op = 0 ∨ x.op = 1 ∨ x.op = 2 ∨ x.op = 3 then (0, 1)
  else if x.op = 4 ∨ x.op = 14 ∨ x.op = 20 ∨ x.op = 19 ∨ x.op = 17 then (1, 0)
  else if x.op = 5 ∨ x.op = 8 ∨ x.op = 12 ∨ x.op = 15 then (2, 1)
  else if x.op = 6 ∨ x.op = 7 ∨ x.op = 9 ∨ x.op = 10 ∨ x.op = 11 ∨ x.op = 22 then (1, 1)
  else if x.op = 16 then (2, 0)
  else if x.op = 13 then ((C.funs.getD x.a.toNat ⟨0, 0, []⟩).free, 1)
  else if x.op = 21 then (2 + (C.hans.getD x.a.toNat ⟨false, []⟩).ops.length, 1)
  else (0, 0)
/-- The fault of an instruction's operands. -/
def opd (C : Code) (f : Fun) (first : Bool) (x : Ins) : Int :=
  if x.op = 18 ∨ x.op = 19 then (if (f.ins.length : Int) ≤ x.a then 16 else 0)
  else if (x.op = 1 ∧ first = true) ∨ (x.op = 2 ∧ f.free ≤ x.a) ∨ ((x.op = 3 ∨ x.op = 4 ∨ x.op = 14) ∧ f.slots ≤ x.a) ∨ (x.op = 12 ∧ 5 ≤ x.a) ∨ (x.op = 13 ∧ (x.a = 0 ∨ (C.funs.length : Int) ≤ x.a)) ∨
    (x.op = 21 ∧ (C.hans.length : Int) ≤ x.a) ∨ (x.op = 22 ∧ (C.ops.length : Int) ≤ x.a) then 14 else 0
end Cd

set_option maxHeartbeats 4000000 in
theorem shape_any (s : List UInt8) (w : World) (hs : s.length ≤ 4611686018427387904) :
    Calls Tryz.prog 37 #[.string ⟨s.toArray⟩, .int .i64 0] w fun e w' => e = .returned (.int .i64 (Cd.shp s 1 0)) ∧ w' = w := by
  have hsz := size_mk s
  go_enter Tryz.func37, Tryz.ntmps37
  go_wp2
  go_loop [1, 5] (fun t l => ∃ (k n : Nat), t = .int .i64 k ∧ l = .int .i64 n ∧ k ≤ s.length ∧ n ≤ k + 1 ∧ Hid (Cd.shp s 1 0 = Cd.shp (s.drop k) n k)) (fun t _ => s.length - (intOf t).toNat)
  case atStart => exact ⟨0, 1, rfl, rfl, Nat.zero_le _, by omega, rfl⟩
  case round =>
    obtain ⟨k, n, rfl, rfl, hk, hn, H⟩ := hrel
    cases n with
    | zero =>
      go_wp2
      go_ret
      exact ⟨by rw [H.out]; simp [Cd.shp], rfl⟩
    | succ n =>
      by_cases hlt : k < s.length
      · have hd : s.drop k = s[k] :: s.drop (k + 1) := List.drop_eq_getElem_cons hlt
        obtain ⟨c, hc0⟩ : ∃ c, s[k] = c := ⟨_, rfl⟩
        have hg : ∀ hx, (⟨s.toArray⟩ : ByteArray)[k]'hx = c := fun _ => hc0
        rw [hc0] at hd
        have HD := hid hd
        clear hd hc0
        rcases (show (c.toNat = 105 ∨ c.toNat = 98 ∨ c.toNat = 117 ∨ c.toNat = 102 ∨ c.toNat = 118) ∨ c.toNat = 108 ∨ c.toNat = 112 ∨
            (c.toNat ≠ 105 ∧ c.toNat ≠ 98 ∧ c.toNat ≠ 117 ∧ c.toNat ≠ 102 ∧ c.toNat ≠ 118 ∧ c.toNat ≠ 108 ∧ c.toNat ≠ 112) by omega) with hc | hc | hc | hc
        · have HS := hid (Cd.shp_leaf (l := s.drop (k + 1)) (n := n) (k := k) hc)
          rcases hc with hc | hc | hc | hc | hc
          all_goals
            go_wp2
            go_round
            case rel => exact ⟨k + 1, n, by go_num, rfl, by omega, by omega, hid (by rw [H.out, HD.out, HS.out])⟩
            case measure => simp [intOf]; omega
        · have HS := hid (Cd.shp_l (l := s.drop (k + 1)) (n := n) (k := k) hc)
          go_wp2
          go_round
          case rel => exact ⟨k + 1, n + 1, by go_num, by go_num, by omega, by omega, hid (by rw [H.out, HD.out, HS.out])⟩
          case measure => simp [intOf]; omega
        · have HS := hid (Cd.shp_p (l := s.drop (k + 1)) (n := n) (k := k) hc)
          go_wp2
          go_round
          case rel => exact ⟨k + 1, n + 2, by go_num, by go_num, by omega, by omega, hid (by rw [H.out, HD.out, HS.out])⟩
          case measure => simp [intOf]; omega
        · have HS := hid (Cd.shp_no (l := s.drop (k + 1)) (n := n) (k := k) hc)
          obtain ⟨h1, h2, h3, h4, h5, h6, h7⟩ := hc
          have b1 : (((c.toNat : Nat) : Int) == 105) = false := by simp; omega
          have b2 : (((c.toNat : Nat) : Int) == 98) = false := by simp; omega
          have b3 : (((c.toNat : Nat) : Int) == 117) = false := by simp; omega
          have b4 : (((c.toNat : Nat) : Int) == 102) = false := by simp; omega
          have b5 : (((c.toNat : Nat) : Int) == 118) = false := by simp; omega
          have b6 : (((c.toNat : Nat) : Int) == 108) = false := by simp; omega
          have b7 : (((c.toNat : Nat) : Int) == 112) = false := by simp; omega
          clear h1 h2 h3 h4 h5 h6 h7
          go_wp2
          go_ret
          exact ⟨by rw [H.out, HD.out, HS.out]; rfl, rfl⟩
      · go_wp2
        go_ret
        refine ⟨?_, rfl⟩
        rw [H.out, List.drop_eq_nil_of_le (by omega)]
        rfl

def codeV2 (C : Cd.Code) (b c d : Value) : Value := .agg #[.string ⟨C.shape.toArray⟩, b, c, d]
def insV2 (x : Cd.Ins) : Value := .agg #[.int .i64 x.op, .int .i64 x.a, .int .i64 x.b, .int .i64 x.n]
def funV (f : Cd.Fun) (v : Value) : Value := .agg #[.int .i64 f.free, .int .i64 f.slots, v]
theorem ret_two {a b c d : Int} (h : a = c) (k : b = d) : Ending.returned (.tuple #[.int .i64 a, .int .i64 b]) = .returned (.tuple #[.int .i64 c, .int .i64 d]) := by rw [h, k]

set_option maxRecDepth 100000 in
set_option maxHeartbeats 8000000 in
theorem takes_any (C : Cd.Code) (b c d : Value) (x : Cd.Ins) (w : World) (hM : CodeM w b c d C) (h13 : x.op = 13 → 0 ≤ x.a ∧ x.a < C.funs.length) (h21 : x.op = 21 → 0 ≤ x.a ∧ x.a < C.hans.length) (hh : ∀ h ∈ C.hans, h.ops.length ≤ 4611686018427387904) :
    Calls Tryz.prog 71 #[codeV2 C b c d, insV2 x] w fun e w' => e = .returned (.tuple #[.int .i64 (Cd.takes C x).1, .int .i64 (Cd.takes C x).2]) ∧ Below w.heap.size w w' := by
  obtain ⟨op, xa, xb, xn⟩ := x
  dsimp only at h13 h21
  unfold codeV2 insV2
  obtain ⟨⟨ao, co, rfl, hco, hx1⟩, ⟨ah, ch, rfl, hch, hx2⟩, ⟨af, cf, rfl, hcf, hx3⟩⟩ := hM
  clear hx1
  by_cases e13 : op = 13
  · subst e13
    obtain ⟨h0, h1⟩ := h13 rfl
    clear h13 h21
    obtain ⟨m, rfl⟩ := Int.eq_ofNat_of_zero_le h0
    have hm : m < C.funs.length := by omega
    obtain ⟨f, hf, _, _, hne⟩ := at_some hm
    obtain ⟨g, k, rfl, hcell⟩ := hx3 hne
    have e0 := (hcell m f hf).1
    have e1 := (hcell m f hf).2.1
    obtain ⟨u, e2, _⟩ := (hcell m f hf).2.2
    have hgl : g < w.heap.size := World.block_lt_of_cell? w ⟨g, _, none⟩ e0
    have HT : Hid (Cd.takes C ⟨13, (m : Int), xb, xn⟩ = (f.free, 1)) := by
      simp [Hid, Cd.takes, hf]
    clear hcell hx2 hx3 hne
    go_enter Tryz.func71, Tryz.ntmps71
    go_wp2
    refine bodyPost_ret (v := .tuple #[.int .i64 f.free, .int .i64 1]) (by simp [results, Tryz.results71, go_sem]) rfl ⟨?_, ((Below.refl _ _).alloc (Nat.le_refl _) _).alloc (by simp) _⟩
    rw [HT.out]
  · by_cases e21 : op = 21
    · subst e21
      obtain ⟨h0, h1⟩ := h21 rfl
      clear h13 h21
      obtain ⟨m, rfl⟩ := Int.eq_ofNat_of_zero_le h0
      have hm : m < C.hans.length := by omega
      obtain ⟨f, hf, _, hmem, hne⟩ := at_some hm
      have hlf := hh f hmem
      obtain ⟨g, k, rfl, hcell⟩ := hx2 hne
      have e0 := (hcell m f hf).1
      obtain ⟨u, e2, ai, ci, rfl, _, _⟩ := (hcell m f hf).2
      have hgl : g < w.heap.size := World.block_lt_of_cell? w ⟨g, _, none⟩ e0
      have HT : Hid (Cd.takes C ⟨21, (m : Int), xb, xn⟩ = (2 + (f.ops.length : Int), 1)) := by
        simp [Hid, Cd.takes, hf]
      have HL : Hid (f.ops.length ≤ ci) := by assumption
      have hwr : IntKind.i64.wrap (2 + (f.ops.length : Int)) = 2 + (f.ops.length : Int) := by
        rw [IntKind.wrap_i64]
        omega
      clear hcell hx2 hx3 hne
      go_enter Tryz.func71, Tryz.ntmps71
      go_wp2
      refine bodyPost_ret (v := .tuple #[.int .i64 (2 + (f.ops.length : Int)), .int .i64 1]) (by simp [results, Tryz.results71, go_sem]) rfl ⟨?_, ((Below.refl _ _).alloc (Nat.le_refl _) _).alloc (by simp) _⟩
      rw [HT.out]
    · clear h13 h21 hx2 hx3
      by_cases e0 : op = 0
      · subst e0
        go_enter Tryz.func71, Tryz.ntmps71
        go_wp2
        exact bodyPost_ret (v := .tuple #[.int .i64 0, .int .i64 1]) (by simp [results, Tryz.results71, go_sem]) rfl ⟨by simp [Cd.takes], ((Below.refl _ _).alloc (Nat.le_refl _) _).alloc (by simp) _⟩
      by_cases e1 : op = 1
      · subst e1
        go_enter Tryz.func71, Tryz.ntmps71
        go_wp2
        exact bodyPost_ret (v := .tuple #[.int .i64 0, .int .i64 1]) (by simp [results, Tryz.results71, go_sem]) rfl ⟨by simp [Cd.takes], ((Below.refl _ _).alloc (Nat.le_refl _) _).alloc (by simp) _⟩
      by_cases e2 : op = 2
      · subst e2
        go_enter Tryz.func71, Tryz.ntmps71
        go_wp2
        exact bodyPost_ret (v := .tuple #[.int .i64 0, .int .i64 1]) (by simp [results, Tryz.results71, go_sem]) rfl ⟨by simp [Cd.takes], ((Below.refl _ _).alloc (Nat.le_refl _) _).alloc (by simp) _⟩
      by_cases e3 : op = 3
      · subst e3
        go_enter Tryz.func71, Tryz.ntmps71
        go_wp2
        exact bodyPost_ret (v := .tuple #[.int .i64 0, .int .i64 1]) (by simp [results, Tryz.results71, go_sem]) rfl ⟨by simp [Cd.takes], ((Below.refl _ _).alloc (Nat.le_refl _) _).alloc (by simp) _⟩
      by_cases e4 : op = 4
      · subst e4
        go_enter Tryz.func71, Tryz.ntmps71
        go_wp2
        exact bodyPost_ret (v := .tuple #[.int .i64 1, .int .i64 0]) (by simp [results, Tryz.results71, go_sem]) rfl ⟨by simp [Cd.takes], ((Below.refl _ _).alloc (Nat.le_refl _) _).alloc (by simp) _⟩
      by_cases e14 : op = 14
      · subst e14
        go_enter Tryz.func71, Tryz.ntmps71
        go_wp2
        exact bodyPost_ret (v := .tuple #[.int .i64 1, .int .i64 0]) (by simp [results, Tryz.results71, go_sem]) rfl ⟨by simp [Cd.takes], ((Below.refl _ _).alloc (Nat.le_refl _) _).alloc (by simp) _⟩
      by_cases e20 : op = 20
      · subst e20
        go_enter Tryz.func71, Tryz.ntmps71
        go_wp2
        exact bodyPost_ret (v := .tuple #[.int .i64 1, .int .i64 0]) (by simp [results, Tryz.results71, go_sem]) rfl ⟨by simp [Cd.takes], ((Below.refl _ _).alloc (Nat.le_refl _) _).alloc (by simp) _⟩
      by_cases e19 : op = 19
      · subst e19
        go_enter Tryz.func71, Tryz.ntmps71
        go_wp2
        exact bodyPost_ret (v := .tuple #[.int .i64 1, .int .i64 0]) (by simp [results, Tryz.results71, go_sem]) rfl ⟨by simp [Cd.takes], ((Below.refl _ _).alloc (Nat.le_refl _) _).alloc (by simp) _⟩
      by_cases e17 : op = 17
      · subst e17
        go_enter Tryz.func71, Tryz.ntmps71
        go_wp2
        exact bodyPost_ret (v := .tuple #[.int .i64 1, .int .i64 0]) (by simp [results, Tryz.results71, go_sem]) rfl ⟨by simp [Cd.takes], ((Below.refl _ _).alloc (Nat.le_refl _) _).alloc (by simp) _⟩
      by_cases e5 : op = 5
      · subst e5
        go_enter Tryz.func71, Tryz.ntmps71
        go_wp2
        exact bodyPost_ret (v := .tuple #[.int .i64 2, .int .i64 1]) (by simp [results, Tryz.results71, go_sem]) rfl ⟨by simp [Cd.takes], ((Below.refl _ _).alloc (Nat.le_refl _) _).alloc (by simp) _⟩
      by_cases e8 : op = 8
      · subst e8
        go_enter Tryz.func71, Tryz.ntmps71
        go_wp2
        exact bodyPost_ret (v := .tuple #[.int .i64 2, .int .i64 1]) (by simp [results, Tryz.results71, go_sem]) rfl ⟨by simp [Cd.takes], ((Below.refl _ _).alloc (Nat.le_refl _) _).alloc (by simp) _⟩
      by_cases e12 : op = 12
      · subst e12
        go_enter Tryz.func71, Tryz.ntmps71
        go_wp2
        exact bodyPost_ret (v := .tuple #[.int .i64 2, .int .i64 1]) (by simp [results, Tryz.results71, go_sem]) rfl ⟨by simp [Cd.takes], ((Below.refl _ _).alloc (Nat.le_refl _) _).alloc (by simp) _⟩
      by_cases e15 : op = 15
      · subst e15
        go_enter Tryz.func71, Tryz.ntmps71
        go_wp2
        exact bodyPost_ret (v := .tuple #[.int .i64 2, .int .i64 1]) (by simp [results, Tryz.results71, go_sem]) rfl ⟨by simp [Cd.takes], ((Below.refl _ _).alloc (Nat.le_refl _) _).alloc (by simp) _⟩
      by_cases e6 : op = 6
      · subst e6
        go_enter Tryz.func71, Tryz.ntmps71
        go_wp2
        exact bodyPost_ret (v := .tuple #[.int .i64 1, .int .i64 1]) (by simp [results, Tryz.results71, go_sem]) rfl ⟨by simp [Cd.takes], ((Below.refl _ _).alloc (Nat.le_refl _) _).alloc (by simp) _⟩
      by_cases e7 : op = 7
      · subst e7
        go_enter Tryz.func71, Tryz.ntmps71
        go_wp2
        exact bodyPost_ret (v := .tuple #[.int .i64 1, .int .i64 1]) (by simp [results, Tryz.results71, go_sem]) rfl ⟨by simp [Cd.takes], ((Below.refl _ _).alloc (Nat.le_refl _) _).alloc (by simp) _⟩
      by_cases e9 : op = 9
      · subst e9
        go_enter Tryz.func71, Tryz.ntmps71
        go_wp2
        exact bodyPost_ret (v := .tuple #[.int .i64 1, .int .i64 1]) (by simp [results, Tryz.results71, go_sem]) rfl ⟨by simp [Cd.takes], ((Below.refl _ _).alloc (Nat.le_refl _) _).alloc (by simp) _⟩
      by_cases e10 : op = 10
      · subst e10
        go_enter Tryz.func71, Tryz.ntmps71
        go_wp2
        exact bodyPost_ret (v := .tuple #[.int .i64 1, .int .i64 1]) (by simp [results, Tryz.results71, go_sem]) rfl ⟨by simp [Cd.takes], ((Below.refl _ _).alloc (Nat.le_refl _) _).alloc (by simp) _⟩
      by_cases e11 : op = 11
      · subst e11
        go_enter Tryz.func71, Tryz.ntmps71
        go_wp2
        exact bodyPost_ret (v := .tuple #[.int .i64 1, .int .i64 1]) (by simp [results, Tryz.results71, go_sem]) rfl ⟨by simp [Cd.takes], ((Below.refl _ _).alloc (Nat.le_refl _) _).alloc (by simp) _⟩
      by_cases e22 : op = 22
      · subst e22
        go_enter Tryz.func71, Tryz.ntmps71
        go_wp2
        exact bodyPost_ret (v := .tuple #[.int .i64 1, .int .i64 1]) (by simp [results, Tryz.results71, go_sem]) rfl ⟨by simp [Cd.takes], ((Below.refl _ _).alloc (Nat.le_refl _) _).alloc (by simp) _⟩
      by_cases e16 : op = 16
      · subst e16
        go_enter Tryz.func71, Tryz.ntmps71
        go_wp2
        exact bodyPost_ret (v := .tuple #[.int .i64 2, .int .i64 0]) (by simp [results, Tryz.results71, go_sem]) rfl ⟨by simp [Cd.takes], ((Below.refl _ _).alloc (Nat.le_refl _) _).alloc (by simp) _⟩
      have HT : Hid (Cd.takes C ⟨op, xa, xb, xn⟩ = (0, 0)) := by simp [Hid, Cd.takes, *]
      have b0 : (op == 0) = false := by simpa using e0
      have b1 : (op == 1) = false := by simpa using e1
      have b2 : (op == 2) = false := by simpa using e2
      have b3 : (op == 3) = false := by simpa using e3
      have b4 : (op == 4) = false := by simpa using e4
      have b14 : (op == 14) = false := by simpa using e14
      have b20 : (op == 20) = false := by simpa using e20
      have b19 : (op == 19) = false := by simpa using e19
      have b17 : (op == 17) = false := by simpa using e17
      have b5 : (op == 5) = false := by simpa using e5
      have b8 : (op == 8) = false := by simpa using e8
      have b12 : (op == 12) = false := by simpa using e12
      have b15 : (op == 15) = false := by simpa using e15
      have b6 : (op == 6) = false := by simpa using e6
      have b7 : (op == 7) = false := by simpa using e7
      have b9 : (op == 9) = false := by simpa using e9
      have b10 : (op == 10) = false := by simpa using e10
      have b11 : (op == 11) = false := by simpa using e11
      have b22 : (op == 22) = false := by simpa using e22
      have b16 : (op == 16) = false := by simpa using e16
      have b13 : (op == 13) = false := by simpa using e13
      have b21 : (op == 21) = false := by simpa using e21
      clear e0 e1 e2 e3 e4 e14 e20 e19 e17 e5 e8 e12 e15 e6 e7 e9 e10 e11 e22 e16 e13 e21
      go_enter Tryz.func71, Tryz.ntmps71
      go_wp2
      exact bodyPost_ret (v := .tuple #[.int .i64 0, .int .i64 0]) (by simp [results, Tryz.results71, go_sem]) rfl ⟨by rw [HT.out], ((Below.refl _ _).alloc (Nat.le_refl _) _).alloc (by simp) _⟩

set_option maxRecDepth 100000 in
set_option maxHeartbeats 8000000 in
theorem operand_any (C : Cd.Code) (b c d : Value) (f : Cd.Fun) (v : Value) (first : Bool) (x : Cd.Ins) (w : World) (hM : CodeM w b c d C) (hI : InssM w v f.ins) :
    Calls Tryz.prog 70 #[codeV2 C b c d, funV f v, .bool first, insV2 x] w fun e w' => e = .returned (.int .i64 (Cd.opd C f first x)) ∧ Below w.heap.size w w' := by
  obtain ⟨op, xa, xb, xn⟩ := x
  unfold codeV2 insV2 funV
  obtain ⟨⟨ao, co, rfl, _, _⟩, ⟨ah, ch, rfl, _, _⟩, ⟨af, cf, rfl, _, _⟩⟩ := hM
  obtain ⟨ai, ci, rfl, _, _⟩ := hI
  by_cases e18 : op = 18
  · subst e18
    go_enter Tryz.func70, Tryz.ntmps70
    go_wp2
    all_goals
      go_ret
      refine ⟨ret_int ?_, (((Below.refl _ _).alloc (Nat.le_refl _) _).alloc (by simp) _).alloc (by simp; omega) _⟩
      unfold Cd.opd
      simp
      try omega
      try simp_all
      try omega
  by_cases e19 : op = 19
  · subst e19
    go_enter Tryz.func70, Tryz.ntmps70
    go_wp2
    all_goals
      go_ret
      refine ⟨ret_int ?_, (((Below.refl _ _).alloc (Nat.le_refl _) _).alloc (by simp) _).alloc (by simp; omega) _⟩
      unfold Cd.opd
      simp
      try omega
      try simp_all
      try omega
  by_cases e1 : op = 1
  · subst e1
    go_enter Tryz.func70, Tryz.ntmps70
    go_wp2
    all_goals
      go_ret
      refine ⟨ret_int ?_, (((Below.refl _ _).alloc (Nat.le_refl _) _).alloc (by simp) _).alloc (by simp; omega) _⟩
      unfold Cd.opd
      simp
      try omega
      try simp_all
      try omega
  by_cases e2 : op = 2
  · subst e2
    go_enter Tryz.func70, Tryz.ntmps70
    go_wp2
    all_goals
      go_ret
      refine ⟨ret_int ?_, (((Below.refl _ _).alloc (Nat.le_refl _) _).alloc (by simp) _).alloc (by simp; omega) _⟩
      unfold Cd.opd
      simp
      try omega
      try simp_all
      try omega
  by_cases e3 : op = 3
  · subst e3
    go_enter Tryz.func70, Tryz.ntmps70
    go_wp2
    all_goals
      go_ret
      refine ⟨ret_int ?_, (((Below.refl _ _).alloc (Nat.le_refl _) _).alloc (by simp) _).alloc (by simp; omega) _⟩
      unfold Cd.opd
      simp
      try omega
      try simp_all
      try omega
  by_cases e4 : op = 4
  · subst e4
    go_enter Tryz.func70, Tryz.ntmps70
    go_wp2
    all_goals
      go_ret
      refine ⟨ret_int ?_, (((Below.refl _ _).alloc (Nat.le_refl _) _).alloc (by simp) _).alloc (by simp; omega) _⟩
      unfold Cd.opd
      simp
      try omega
      try simp_all
      try omega
  by_cases e14 : op = 14
  · subst e14
    go_enter Tryz.func70, Tryz.ntmps70
    go_wp2
    all_goals
      go_ret
      refine ⟨ret_int ?_, (((Below.refl _ _).alloc (Nat.le_refl _) _).alloc (by simp) _).alloc (by simp; omega) _⟩
      unfold Cd.opd
      simp
      try omega
      try simp_all
      try omega
  by_cases e12 : op = 12
  · subst e12
    go_enter Tryz.func70, Tryz.ntmps70
    go_wp2
    all_goals
      go_ret
      refine ⟨ret_int ?_, (((Below.refl _ _).alloc (Nat.le_refl _) _).alloc (by simp) _).alloc (by simp; omega) _⟩
      unfold Cd.opd
      simp
      try omega
      try simp_all
      try omega
  by_cases e13 : op = 13
  · subst e13
    go_enter Tryz.func70, Tryz.ntmps70
    go_wp2
    all_goals
      go_ret
      refine ⟨ret_int ?_, (((Below.refl _ _).alloc (Nat.le_refl _) _).alloc (by simp) _).alloc (by simp; omega) _⟩
      unfold Cd.opd
      simp
      try omega
      try simp_all
      try omega
  by_cases e21 : op = 21
  · subst e21
    go_enter Tryz.func70, Tryz.ntmps70
    go_wp2
    all_goals
      go_ret
      refine ⟨ret_int ?_, (((Below.refl _ _).alloc (Nat.le_refl _) _).alloc (by simp) _).alloc (by simp; omega) _⟩
      unfold Cd.opd
      simp
      try omega
      try simp_all
      try omega
  by_cases e22 : op = 22
  · subst e22
    go_enter Tryz.func70, Tryz.ntmps70
    go_wp2
    all_goals
      go_ret
      refine ⟨ret_int ?_, (((Below.refl _ _).alloc (Nat.le_refl _) _).alloc (by simp) _).alloc (by simp; omega) _⟩
      unfold Cd.opd
      simp
      try omega
      try simp_all
      try omega
  have HT : Hid (Cd.opd C f first ⟨op, xa, xb, xn⟩ = 0) := by simp [Hid, Cd.opd, *]
  have b18 : (op == 18) = false := by simpa using e18
  have b19 : (op == 19) = false := by simpa using e19
  have b1 : (op == 1) = false := by simpa using e1
  have b2 : (op == 2) = false := by simpa using e2
  have b3 : (op == 3) = false := by simpa using e3
  have b4 : (op == 4) = false := by simpa using e4
  have b14 : (op == 14) = false := by simpa using e14
  have b12 : (op == 12) = false := by simpa using e12
  have b13 : (op == 13) = false := by simpa using e13
  have b21 : (op == 21) = false := by simpa using e21
  have b22 : (op == 22) = false := by simpa using e22
  clear e18 e19 e1 e2 e3 e4 e14 e12 e13 e21 e22
  go_enter Tryz.func70, Tryz.ntmps70
  go_wp2
  go_ret
  exact ⟨by rw [HT.out]; rfl, (((Below.refl _ _).alloc (Nat.le_refl _) _).alloc (by simp) _).alloc (by simp; omega) _⟩
end Go.Proofs.YtpjbfdpblgjmfaaGreatDoor

namespace Go.Proofs.YtpjbfdpblgjmfaaGreatDoor
namespace Cd

/-- Where one goes on from instruction i. -/
def goes (x : Ins) (i : Nat) : List Int := (if x.op = 18 ∨ x.op = 19 then [x.a] else []) ++ (if x.op ≠ 18 ∧ x.op ≠ 17 ∧ x.op ≠ 16 then [(i : Int) + 1] else [])
/-- What is known of how many values lie there. -/
abbrev Kn := Int → Option Int
def Kn.put (K : Kn) (k v : Int) : Kn := fun a => if a = k then some v else K a
def flow1 (i : Nat) (n : Int) : List Int → Kn → Option Kn
  | [], K => some K
  | a :: l, K => match K a with
    | some m => if m = n then flow1 i n l (K.put a n) else none
    | none => if a ≤ i then none else flow1 i n l (K.put a n)
/-- From instruction i on: where the fault is, if there is one; what is known then. -/
def flowL (C : Code) : List Ins → Nat → Kn → Option Nat × Kn
  | [], _, K => (none, K)
  | x :: l, i, K => match K i with
    | none => (some i, K)
    | some n => if (takes C x).1 > n ∨ ((x.op = 17 ∨ x.op = 16) ∧ (takes C x).1 ≠ n) then (some i, K)
      else if n - (takes C x).1 + (takes C x).2 > 4000 then (some i, K)
      else match flow1 i (n - (takes C x).1 + (takes C x).2) (goes x i) K with
        | none => (some i, K)
        | some K' => flowL C l (i + 1) K'
/-- The first instruction whose operands are at fault. -/
def opdL (C : Code) (f : Fun) (first : Bool) : List Ins → Nat → Option (Int × Nat)
  | [], _ => none
  | x :: l, i => if opd C f first x = 0 then opdL C f first l (i + 1) else some (opd C f first x, i)
def funF (C : Code) (f : Fun) (first : Bool) : Int × Nat := match opdL C f first f.ins 0 with
  | some z => z
  | none => match flowL C f.ins 0 (Kn.put (fun _ => none) 0 0) with
    | (some i, _) => (17, i)
    | (none, K) => if (K f.ins.length).isSome then (17, f.ins.length) else (0, 0)
def funsF (C : Code) : List Fun → Bool → Nat → Int × Nat
  | [], _, _ => (0, 0)
  | f :: l, first, k => if (funF C f first).1 = 0 then funsF C l false (k + f.ins.length) else ((funF C f first).1, k + (funF C f first).2)
def hanBad (C : Code) (h : Han) : Bool := h.ops.any (fun x => decide ((C.ops.length : Int) ≤ x)) || !decide h.ops.Nodup
def chk (C : Code) : Int × Nat :=
  if shp C.shape 1 0 ≠ C.shape.length ∨ C.funs = [] ∨ (C.funs.getD 0 ⟨0, 0, []⟩).free ≠ 0 ∨ C.hans.any (hanBad C) = true then (14, 0) else funsF C C.funs true 0
theorem opdL_none {C : Code} {f : Fun} {first : Bool} : ∀ (l : List Ins) (i : Nat), opdL C f first l i = none ↔ ∀ x ∈ l, opd C f first x = 0 := by
  intro l
  induction l with
  | nil => intro i; simp [opdL]
  | cons x l ih =>
    intro i
    unfold opdL
    by_cases h : opd C f first x = 0
    · rw [if_pos h, ih]; simp [h]
    · rw [if_neg h]; simp [h]
end Cd
end Go.Proofs.YtpjbfdpblgjmfaaGreatDoor
