/-
  The program's reader in memory: left, brokenAt, take, number, flag.
  The library's contract of stringslite.Clone, laid at this program.
  The program's reader in memory: text, flag.
  The program's reader in memory: text, end, head.
-/
import Derived.Test.YtpjbfdpblgjmfaaGreatDoorMA
import Derived.Deep.Cut
import Derived.BigRegion
import Derived.Deep.QuietTactic
import Derived.BigQuiet
import Derived.Shelf.LaysM
import Derived.Shelf.Strconv.Clone
import Derived.Test.YtpjbfdpblgjmfaaGreatDoorProg
set_option linter.unusedVariables false
set_option linter.unusedSimpArgs false
namespace Go.Proofs.YtpjbfdpblgjmfaaGreatDoor
open Go.RowKit Go.Lib

/-- The program's reader, in the block b. -/
def PM (w : World) (b : Nat) (s : List UInt8) (p : Nat) : Prop := w.heap[b]? = some (.cells #[.string ⟨s.toArray⟩, .int .i64 p] 72 (0, 0))
theorem PM.cells {w : World} {b : Nat} {s : List UInt8} {p : Nat} (h : PM w b s p) : w.cell? ⟨b, 0, none⟩ = some (.string ⟨s.toArray⟩) ∧ w.cell? ⟨b, 1, none⟩ = some (.int .i64 p) ∧ ∀ i, w.frozen? ⟨b, i, none⟩ = false := by
  unfold PM at h
  refine ⟨?_, ?_, fun i => ?_⟩ <;> simp [World.cell?, World.frozen?, h]
theorem PM.lt {w : World} {b : Nat} {s : List UInt8} {p : Nat} (h : PM w b s p) : b < w.heap.size := (Array.getElem?_eq_some_iff.1 h).1
theorem PM.pos {w : World} {b : Nat} {s : List UInt8} {p : Nat} (h : PM w b s p) (q : Nat) : PM (w.setCell ⟨b, 1, none⟩ (.int .i64 q)) b s q := by
  unfold PM at h ⊢
  rw [setCell_eq_setRow w b 1 _ _ _ _ h]
  exact setRow_heap w b _ _ _ _ h
/-- A fault as the program's error; none: nil. -/
def errV (r : Cd.Rd) : Value := if r.fk = 0 then .nilIface else .iface 78 (.agg #[.int .i64 (r.fk : Nat), .int .i64 (r.fa : Nat)])
theorem errV_ok {r : Cd.Rd} (h : r.fk = 0) : errV r = .nilIface := by simp [errV, h]
theorem errV_no {r : Cd.Rd} (h : r.fk ≠ 0) : errV r = .iface 78 (.agg #[.int .i64 (r.fk : Nat), .int .i64 (r.fa : Nat)]) := by simp [errV, h]
/-- The reader at a place, without a fault. -/
def Cd.Rd.at_ (p : Nat) : Cd.Rd := ⟨p, 0, 0⟩
theorem grown_drewN {w w' : World} {o : Option Nat} {n : Nat} (h : w.grownBy w' o) : w.grownBy (w'.drewN n) o := ⟨h.os, h.tape, h.output, h.size, h.block⟩

theorem broken_c (k a : Int) (w : World) :
    Calls Tryz.prog 82 #[.int .i64 k, .int .i64 a] w fun e w' => e = .returned (.iface 78 (.agg #[.int .i64 k, .int .i64 a])) ∧ w' = w := by
  go_enter Tryz.func82, Tryz.ntmps82
  go_wp2
  go_ret
  exact ⟨rfl, rfl⟩
theorem left_c (w : World) (b : Nat) (s : List UInt8) (p : Nat) (h : PM w b s p) (hs : s.length ≤ 4000000) (hp : p ≤ s.length) :
    Calls Tryz.prog 85 #[ptrV b] w fun e w' => e = .returned (.int .i64 ((s.length - p : Nat) : Int)) ∧ ∃ n, w' = w.drewN n := by
  obtain ⟨c0, c1, hf⟩ := h.cells
  have hsz := size_mk s
  have hw : IntKind.i64.wrap ((s.length : Int) - p) = ((s.length - p : Nat) : Int) := by rw [IntKind.wrap_i64]; omega
  unfold ptrV
  go_enter Tryz.func85, Tryz.ntmps85
  go_wp2
  go_quiet (fail)
  go_wp2
  go_ret
  exact ⟨rfl, nq, rfl⟩

def TkPost (w : World) (b : Nat) (s : List UInt8) (t : List UInt8) (r : Cd.Rd) (e : Ending) (w' : World) : Prop := e = .returned (.tuple #[.string ⟨t.toArray⟩, errV r]) ∧ PM w' b s r.pos ∧ w.grownBy w' (some b)
set_option maxHeartbeats 2000000 in
theorem take_c (w : World) (b : Nat) (s : List UInt8) (p n : Nat) (h : PM w b s p) (hs : s.length ≤ 4000000) (hp : p ≤ s.length) (hn : n ≤ 65535) :
    Calls Tryz.prog 81 #[ptrV b, .int .i64 n] w (TkPost w b s (Cd.Rd.text s n (Cd.Rd.at_ p)).1 (Cd.Rd.text s n (Cd.Rd.at_ p)).2) := by
  obtain ⟨c0, c1, hf⟩ := h.cells
  have hsz := size_mk s
  have H := hid h
  have HL := hid (left_c w b s p h hs hp)
  clear h
  unfold ptrV at HL ⊢
  by_cases hh : p + n ≤ s.length
  · have HP : Hid (Cd.Rd.text s n (Cd.Rd.at_ p) = ((s.drop p).take n, ⟨p + n, 0, 0⟩)) := by
      rw [Hid, Cd.Rd.text, if_pos (show (Cd.Rd.at_ p).has s n from ⟨rfl, hh⟩)]
      rfl
    have hle : ¬ (((s.length - p : Nat) : Int) < (n : Int)) := by omega
    have hw : IntKind.i64.wrap ((p : Int) + n) = p + n := by rw [IntKind.wrap_i64]; omega
    have hw2 : IntKind.i64.wrap ((p : Int) + n - n) = p := by rw [IntKind.wrap_i64]; omega
    have hw3 : IntKind.i64.wrap (p : Int) = p := by rw [IntKind.wrap_i64]; omega
    have kX := fun (W : World) => run_slice_string (P := Tryz.prog) W 9 (⟨s.toArray⟩ : ByteArray) .i64 .i64 (p : Int) ((p : Int) + n) Tryz.underlying9 (by omega) (by omega) (by rw [hsz]; omega)
    have HPn := hid (H.out.pos (p + n))
    go_enter Tryz.func81, Tryz.ntmps81
    go_upto_region 4 with (first
      | (go_at_call 85; refine HL.out.mono ?_; clear HL; rintro en w1 ⟨rfl, n1, hw1⟩; obtain rfl := hw1)
      | go_in)
    have HW : Hid (PM ((w.drewN n1).setCell ⟨b, 1, none⟩ (.int .i64 ((p : Int) + n))) b s (p + n) ∧ w.grownBy ((w.drewN n1).setCell ⟨b, 1, none⟩ (.int .i64 ((p : Int) + n))) (some b)) := by
      refine ⟨?_, grown_set (grown_drewN (grown_refl _ _)) _⟩
      have := PM.pos (w := w.drewN n1) H.out (p + n)
      rw [Int.natCast_add] at this
      exact this
    clear HPn
    generalize hWW : (w.drewN n1).setCell ⟨b, 1, none⟩ (.int .i64 ((p : Int) + n)) = W at HW
    clear hWW c0 c1 hf
    obtain ⟨c0, c1, hf⟩ := HW.out.1.cells
    rw [Int.natCast_add] at c1
    go_quiet (fail)
    go_wp2
    rw [HP.out]
    refine bodyPost_ret (v := .tuple #[.string ⟨((s.drop p).take n).toArray⟩, .nilIface]) ?_ rfl ⟨?_, HW.out.1, grown_drewN HW.out.2⟩
    · have e2 : ((p : Int) + n).toNat = p + n := by omega
      have e3 : (⟨s.toArray⟩ : ByteArray).extract p (p + n) = ⟨((s.drop p).take n).toArray⟩ := by
        apply ByteArray.ext
        apply Array.ext'
        simp
      simp [results, Tryz.results81, go_sem, e2, e3]
    · rw [errV_ok rfl]
  · have HP : Hid (Cd.Rd.text s n (Cd.Rd.at_ p) = ([], ⟨p, 13, s.length⟩)) := by
      rw [Hid, Cd.Rd.text, if_neg (show ¬ (Cd.Rd.at_ p).has s n from fun h => hh h.2)]
      rfl
    have hle : (((s.length - p : Nat) : Int) < (n : Int)) := by omega
    go_enter Tryz.func81, Tryz.ntmps81
    go_wp2_with (first
      | (go_at_call 85; refine HL.out.mono ?_; clear HL; rintro en w1 ⟨rfl, n1, hw1⟩; obtain rfl := hw1)
      | (go_at_call 82; refine (broken_c _ _ _).mono ?_; rintro en w9 ⟨rfl, hw9⟩; obtain rfl := hw9.symm)
      | go_in)
    rw [HP.out]
    refine bodyPost_ret (v := .tuple #[.string ⟨#[]⟩, .iface 78 (.agg #[.int .i64 13, .int .i64 s.length])]) (by simp [results, Tryz.results81, go_sem]) rfl ⟨?_, H.out, grown_drewN (grown_refl _ _)⟩
    rw [errV_no (by simp)]
    rfl

def NmPost (w : World) (b : Nat) (s : List UInt8) (v : Int) (r : Cd.Rd) (e : Ending) (w' : World) : Prop := e = .returned (.tuple #[.int .i64 v, errV r]) ∧ PM w' b s r.pos ∧ w.grownBy w' (some b)
theorem text_num (s : List UInt8) (n : Nat) (r : Cd.Rd) : r.num s n = (Cd.num (r.text s n).1, (r.text s n).2) := by
  unfold Cd.Rd.num Cd.Rd.text
  split <;> simp [Cd.num]
/-- A byte behind a number. -/
theorem or_byte2 (v : Nat) (c : Nat) (hv : v < 72057594037927936) (hc : c < 256) : bits .or .i64 (IntKind.i64.wrap ((v : Int) * 256)) (c : Int) = Cd.sgn (v * 256 + c) := by
  have e1 : (BitVec.ofInt 64 (IntKind.i64.wrap ((v : Int) * 256))).toNat = v * 256 := by
    rw [BitVec.toNat_ofInt, IntKind.wrap_i64]
    omega
  have e2 : (BitVec.ofInt 64 (c : Int)).toNat = c := by
    rw [BitVec.toNat_ofInt]
    omega
  have e3 : v * 256 ||| c = v * 256 + c := by
    have := Nat.shiftLeft_add_eq_or_of_lt (i := 8) (b := c) hc v
    rw [Nat.shiftLeft_eq] at this
    exact this.symm
  have key : (BitVec.ofInt 64 (IntKind.i64.wrap ((v : Int) * 256)) ||| BitVec.ofInt 64 (c : Int)).toNat = v * 256 + c := by
    rw [BitVec.toNat_or, e1, e2, e3]
  show IntKind.i64.wrap ((BitVec.ofInt 64 (IntKind.i64.wrap ((v : Int) * 256)) ||| BitVec.ofInt 64 (c : Int)).toNat : Nat) = _
  rw [key, IntKind.wrap_i64]
  unfold Cd.sgn
  split <;> omega
theorem num_step (t : List UInt8) (i : Nat) (h : i < t.length) : Cd.num (t.take (i + 1)) = Cd.num (t.take i) * 256 + t[i].toNat := by
  rw [List.take_add_one, List.getElem?_eq_getElem h, Option.toList_some, Cd.num_snoc]

set_option maxHeartbeats 2000000 in
theorem number_c (w : World) (b : Nat) (s : List UInt8) (p n : Nat) (h : PM w b s p) (hs : s.length ≤ 4000000) (hp : p ≤ s.length) (hn : n ≤ 8) :
    Calls Tryz.prog 83 #[ptrV b, .int .i64 n] w (NmPost w b s (Cd.sgn (Cd.Rd.num s n (Cd.Rd.at_ p)).1) (Cd.Rd.num s n (Cd.Rd.at_ p)).2) := by
  have HT := hid (take_c w b s p n h hs hp (by omega))
  have HE := hid (text_num s n (Cd.Rd.at_ p))
  have hlen : (Cd.Rd.text s n (Cd.Rd.at_ p)).1.length ≤ n := by
    unfold Cd.Rd.text
    split
    · simp; omega
    · simp
  clear h
  generalize Cd.Rd.text s n (Cd.Rd.at_ p) = tr at HT HE hlen
  obtain ⟨t, r⟩ := tr
  dsimp only at HT HE hlen
  have hsz := size_mk t
  unfold ptrV at HT ⊢
  go_enter Tryz.func83, Tryz.ntmps83
  go_wp2_with (first
    | (go_at_call 81; refine HT.out.mono ?_; clear HT; rintro en w1 ⟨rfl, h1, hg1⟩
       replace h1 := hid h1
       replace hg1 := hid hg1)
    | go_in)
  generalize hev : errV r = ev
  have HEv := hid hev
  clear hev
  go_loop [8, 18] (fun v t' => ∃ i : Nat, t' = .int .i64 i ∧ v = .int .i64 (Cd.sgn (Cd.num (t.take i))) ∧ i ≤ t.length) (fun _ t' => t.length - (intOf t').toNat)
  case atStart => exact ⟨0, rfl, by simp [Cd.num, Cd.sgn], Nat.zero_le _⟩
  case round =>
    obtain ⟨i, rfl, rfl, hi⟩ := hrel
    by_cases hlt : i < t.length
    · have hgl : (i : Int) < t.length := by omega
      have hv : Cd.num (t.take i) < 72057594037927936 := by
        have h2 := Cd.num_lt (t.take i)
        have h3 : (t.take i).length ≤ 7 := by simp; omega
        have h4 : 256 ^ (t.take i).length ≤ 256 ^ 7 := Nat.pow_le_pow_right (by decide) h3
        omega
      have HNX := hid (num_step t i hlt)
      generalize Cd.num (t.take i) = v at hv HNX
      rw [Cd.sgn_small (by omega)]
      obtain ⟨c, hc0⟩ : ∃ c, t[i] = c := ⟨_, rfl⟩
      rw [hc0] at HNX
      have hg : ∀ hx, (⟨t.toArray⟩ : ByteArray)[i]'hx = c := fun _ => hc0
      have hor := or_byte2 v c.toNat hv c.toNat_lt
      have hcw : IntKind.i64.wrap (c.toNat : Int) = c.toNat := by
        have := c.toNat_lt
        rw [IntKind.wrap_i64]
        omega
      clear hc0
      go_wp2
      go_round
      case rel => exact ⟨i + 1, by simp, by rw [HNX.out, ← hor, IntWalk.i64_left], by omega⟩
      case measure => simp [intOf]; omega
    · have e : i = t.length := by omega
      subst e
      have hgl : ¬ (t.length : Int) < t.length := by omega
      go_wp2
      rw [HE.out]
      refine bodyPost_ret (v := .tuple #[.int .i64 (Cd.sgn (Cd.num t)), ev]) ?_ rfl ⟨by rw [HEv.out], h1.out, hg1.out⟩
      simp [results, Tryz.results83, go_sem]
end Go.Proofs.YtpjbfdpblgjmfaaGreatDoor

namespace Go.Proofs
open Go.Shelf
def Tryz.laysM316_ren : Go.Shelf.Ren := ⟨fun | 316 => 103 | n => n, fun | 9 => 9 | 3 => 3 | 4 => 4 | 37 => 235 | 0 => 0 | 127 => 236 | 5 => 5 | n => n, fun | n => n⟩
theorem Tryz.laysM316 : Go.Proofs.LaysM.n316 Tryz.prog Tryz.laysM316_ren := {
  mixed := by kernel_rfl
  f316 := Tryz.func103.trans (congrArg some (by kernel_rfl))
  t0 := Tryz.underlying0
  a0 := Tryz.isAgg0
  z0 := Tryz.sizeOf0
  v0 := Tryz.zeroValue0
  t3 := Tryz.underlying3
  a3 := Tryz.isAgg3
  z3 := Tryz.sizeOf3
  v3 := Tryz.zeroValue3
  t4 := Tryz.underlying4
  a4 := Tryz.isAgg4
  z4 := Tryz.sizeOf4
  v4 := Tryz.zeroValue4
  t9 := Tryz.underlying9
  a9 := Tryz.isAgg9
  z9 := Tryz.sizeOf9
  v9 := Tryz.zeroValue9
  t37 := Tryz.underlying235
  a37 := Tryz.isAgg235
  z37 := Tryz.sizeOf235
  v37 := Tryz.zeroValue235
  t127 := Tryz.underlying236
  a127 := Tryz.isAgg236
  z127 := Tryz.sizeOf236
  v127 := Tryz.zeroValue236
  t5 := Tryz.underlying5
  a5 := Tryz.isAgg5
  z5 := Tryz.sizeOf5
  v5 := Tryz.zeroValue5
  i0 := by kernel_rfl
  i3 := by kernel_rfl
  i4 := by kernel_rfl
  i5 := by kernel_rfl
  i9 := by kernel_rfl
  i37 := by kernel_rfl
  i127 := by kernel_rfl }
open Go.RowKit in
theorem Tryz.stringslite_Clone (s : ByteArray) (w : World) (hlim : s.size ≤ 281474976710656) :
    Calls Tryz.prog 103 #[.string s] w fun e w' => e = .returned (.string s) ∧ Below w.heap.size w w' := Any.stringslite_Clone Tryz.laysM316 s w hlim
end Go.Proofs

namespace Go.Proofs.YtpjbfdpblgjmfaaGreatDoor
open Go.RowKit Go.Lib

theorem num_le (s : List UInt8) (n p : Nat) (hp : p ≤ s.length) : (Cd.Rd.num s n (Cd.Rd.at_ p)).2.pos ≤ s.length := by
  unfold Cd.Rd.num Cd.Rd.no Cd.Rd.at_
  split
  · rename_i h; exact h.2
  · simp; exact hp
theorem text_le (s : List UInt8) (n p : Nat) (hp : p ≤ s.length) : (Cd.Rd.text s n (Cd.Rd.at_ p)).2.pos ≤ s.length := by
  unfold Cd.Rd.text Cd.Rd.no Cd.Rd.at_
  split
  · rename_i h; exact h.2
  · simp; exact hp
theorem rd_ok {r : Cd.Rd} (h : r.fk = 0) (ha : r.fa = 0) : r = Cd.Rd.at_ r.pos := by
  obtain ⟨a, b, c⟩ := r
  simp at h ha
  subst h ha
  rfl
theorem num_fa (s : List UInt8) (n p : Nat) (h : (Cd.Rd.num s n (Cd.Rd.at_ p)).2.fk = 0) : (Cd.Rd.num s n (Cd.Rd.at_ p)).2 = Cd.Rd.at_ (p + n) := by
  unfold Cd.Rd.num Cd.Rd.no Cd.Rd.at_ at h ⊢
  split
  · rfl
  · rename_i h2
    rw [if_neg h2] at h
    simp at h
theorem num_bad (s : List UInt8) (n p : Nat) (h : (Cd.Rd.num s n (Cd.Rd.at_ p)).2.fk ≠ 0) : Cd.Rd.num s n (Cd.Rd.at_ p) = (0, ⟨p, 13, s.length⟩) := by
  unfold Cd.Rd.num Cd.Rd.no Cd.Rd.at_ at h ⊢
  split
  · rename_i h2; rw [if_pos h2] at h; simp at h
  · simp
/-- A text with its length ahead of it. -/
def Cd.Rd.txt (s : List UInt8) (size most : Nat) (r : Cd.Rd) : List UInt8 × Cd.Rd :=
  let k := r.num s size
  let r1 := if most < k.1 then k.2.no 14 r.pos else k.2
  r1.text s k.1

theorem clone_c (t : List UInt8) (w : World) (ht : t.length ≤ 65535) :
    Calls Tryz.prog 84 #[.string ⟨t.toArray⟩] w fun e w' => e = .returned (.string ⟨t.toArray⟩) ∧ Below w.heap.size w w' := by
  have hsz := size_mk t
  go_enter Tryz.func84, Tryz.ntmps84
  go_wp2_with (first
    | (go_at_call 103; refine (Tryz.stringslite_Clone _ _ (by omega)).mono ?_; rintro e w1 ⟨rfl, hb⟩)
    | go_in)
  go_ret
  exact ⟨rfl, hb⟩

set_option maxHeartbeats 2000000 in
theorem dflag_c (w : World) (b : Nat) (s : List UInt8) (p : Nat) (h : PM w b s p) (hs : s.length ≤ 4000000) (hp : p ≤ s.length) :
    Calls Tryz.prog 86 #[ptrV b] w fun e w' => e = .returned (.tuple #[.bool (Cd.Rd.flag s (Cd.Rd.at_ p)).1, errV (Cd.Rd.flag s (Cd.Rd.at_ p)).2]) ∧ PM w' b s (Cd.Rd.flag s (Cd.Rd.at_ p)).2.pos ∧ w.grownBy w' (some b) := by
  obtain ⟨c0, c1, hf⟩ := h.cells
  have HN := hid (number_c w b s p 1 h hs hp (by omega))
  have hlt := Cd.num_one_lt s (Cd.Rd.at_ p)
  have HS : Hid (Cd.sgn (Cd.Rd.num s 1 (Cd.Rd.at_ p)).1 = ((Cd.Rd.num s 1 (Cd.Rd.at_ p)).1 : Int)) := Cd.sgn_small (by omega)
  rw [HS.out] at HN
  unfold NmPost at HN
  have HFl : Hid (Cd.Rd.flag s (Cd.Rd.at_ p) = ((Cd.Rd.num s 1 (Cd.Rd.at_ p)).1 == 1, if 1 < (Cd.Rd.num s 1 (Cd.Rd.at_ p)).1 then (Cd.Rd.num s 1 (Cd.Rd.at_ p)).2.no 14 ((Cd.Rd.num s 1 (Cd.Rd.at_ p)).2.pos - 1) else (Cd.Rd.num s 1 (Cd.Rd.at_ p)).2)) := rfl
  have hok := num_fa s 1 p
  have hbd := num_bad s 1 p
  clear h HS
  generalize Cd.Rd.num s 1 (Cd.Rd.at_ p) = vr at HN hlt HFl hok hbd
  obtain ⟨v, r⟩ := vr
  dsimp only at HN hlt HFl hok hbd
  unfold ptrV at HN ⊢
  by_cases hr : r.fk = 0
  · obtain rfl := hok hr
    rw [errV_ok hr] at HN
    clear hok hbd hr
    by_cases hv : 1 < v
    · have hv2 : (1 : Int) < v := by omega
      have HP : Hid (Cd.Rd.flag s (Cd.Rd.at_ p) = (false, ⟨p + 1, 14, p⟩)) := by
        rw [Hid, HFl.out, if_pos hv]
        have : (v == 1) = false := by simp; omega
        rw [this]
        rfl
      go_enter Tryz.func86, Tryz.ntmps86
      go_wp2_with (first
        | (go_at_call 83; refine HN.out.mono ?_; clear HN; rintro en w1 ⟨rfl, h1, hg1⟩
           replace h1 := hid h1
           replace hg1 := hid hg1)
        | (go_at_call 82; refine (broken_c _ _ _).mono ?_; rintro en w9 ⟨rfl, hw9⟩; obtain rfl := hw9.symm)
        | go_in)
      rw [HP.out]
      exact bodyPost_ret (v := .tuple #[.bool false, .iface 78 (.agg #[.int .i64 14, .int .i64 p])]) (by simp [results, Tryz.results86, go_sem]) rfl ⟨by rw [errV_no (by simp)]; rfl, h1.out, hg1.out⟩
    · have hv2 : ¬ (1 : Int) < v := by omega
      have HP : Hid (Cd.Rd.flag s (Cd.Rd.at_ p) = (v == 1, Cd.Rd.at_ (p + 1))) := by rw [Hid, HFl.out, if_neg hv]
      have hq : ((v : Int) == 1) = (v == 1) := by rw [Bool.eq_iff_iff]; simp; omega
      go_enter Tryz.func86, Tryz.ntmps86
      go_wp2_with (first
        | (go_at_call 83; refine HN.out.mono ?_; clear HN; rintro en w1 ⟨rfl, h1, hg1⟩
           replace h1 := hid h1
           replace hg1 := hid hg1)
        | go_in)
      all_goals
        rw [HP.out]
        refine bodyPost_ret (v := .tuple #[.bool (v == 1), .nilIface]) (by simp [results, Tryz.results86, go_sem]; try simp_all) rfl ⟨by rw [errV_ok rfl], h1.out, hg1.out⟩
  · have hb := hbd hr
    simp only [Prod.mk.injEq] at hb
    obtain ⟨rfl, rfl⟩ := hb
    have HP : Hid (Cd.Rd.flag s (Cd.Rd.at_ p) = (false, ⟨p, 13, s.length⟩)) := by
      rw [Hid, HFl.out, if_neg (by omega)]
      rfl
    rw [errV_no hr] at HN
    clear hok hbd hr
    go_enter Tryz.func86, Tryz.ntmps86
    go_wp2_with (first
      | (go_at_call 83; refine HN.out.mono ?_; clear HN; rintro en w1 ⟨rfl, h1, hg1⟩
         replace h1 := hid h1
         replace hg1 := hid hg1)
      | go_in)
    rw [HP.out]
    exact bodyPost_ret (v := .tuple #[.bool false, .iface 78 (.agg #[.int .i64 13, .int .i64 s.length])]) (by simp [results, Tryz.results86, go_sem]) rfl ⟨by rw [errV_no (by simp)]; rfl, h1.out, hg1.out⟩
end Go.Proofs.YtpjbfdpblgjmfaaGreatDoor

namespace Go.Proofs.YtpjbfdpblgjmfaaGreatDoor
open Go.RowKit Go.Lib

theorem PM.keep {w w' : World} {b : Nat} {s : List UInt8} {p : Nat} (h : PM w b s p) (hb : Below w.heap.size w w') : PM w' b s p := (hb.block b h.lt).trans h
theorem bg {w w' : World} {o : Option Nat} (h : Below w.heap.size w w') : w.grownBy w' o := ⟨h.os, h.tape, h.output, h.size, fun i hi _ => h.block i hi⟩
theorem num_lt2 (s : List UInt8) (p n : Nat) (hn : n ≤ 2) : (Cd.Rd.num s n (Cd.Rd.at_ p)).1 ≤ 65535 := by
  unfold Cd.Rd.num
  split
  · have := Cd.num_lt ((s.drop (Cd.Rd.at_ p).pos).take n)
    have h2 : ((s.drop (Cd.Rd.at_ p).pos).take n).length ≤ 2 := by simp; omega
    have h3 : 256 ^ ((s.drop (Cd.Rd.at_ p).pos).take n).length ≤ 256 ^ 2 := Nat.pow_le_pow_right (by decide) h2
    dsimp only
    omega
  · simp
theorem text_len (s : List UInt8) (p n : Nat) (hn : n ≤ 65535) : (Cd.Rd.text s n (Cd.Rd.at_ p)).1.length ≤ 65535 := by
  unfold Cd.Rd.text
  split
  · simp; omega
  · simp

set_option maxHeartbeats 4000000 in
theorem dtext_c (w : World) (b : Nat) (s : List UInt8) (p size most : Nat) (h : PM w b s p) (hs : s.length ≤ 4000000) (hp : p ≤ s.length) (hz : size ≤ 2) (hm : most ≤ 65535) :
    Calls Tryz.prog 49 #[ptrV b, .int .i64 size, .int .i64 most] w (TkPost w b s (Cd.Rd.txt s size most (Cd.Rd.at_ p)).1 (Cd.Rd.txt s size most (Cd.Rd.at_ p)).2) := by
  obtain ⟨c0, c1, hf⟩ := h.cells
  have HN := hid (number_c w b s p size h hs hp (by omega))
  have hlt := num_lt2 s p size hz
  have hle := num_le s size p hp
  have HS : Hid (Cd.sgn (Cd.Rd.num s size (Cd.Rd.at_ p)).1 = ((Cd.Rd.num s size (Cd.Rd.at_ p)).1 : Int)) := Cd.sgn_small (by omega)
  rw [HS.out] at HN
  unfold NmPost at HN
  have HFl : Hid (Cd.Rd.txt s size most (Cd.Rd.at_ p) = (if most < (Cd.Rd.num s size (Cd.Rd.at_ p)).1 then (Cd.Rd.num s size (Cd.Rd.at_ p)).2.no 14 p else (Cd.Rd.num s size (Cd.Rd.at_ p)).2).text s (Cd.Rd.num s size (Cd.Rd.at_ p)).1) := rfl
  have hok := num_fa s size p
  have hbd := num_bad s size p
  clear h HS
  generalize Cd.Rd.num s size (Cd.Rd.at_ p) = vr at HN hlt HFl hok hbd hle
  obtain ⟨v, r⟩ := vr
  dsimp only at HN hlt HFl hok hbd hle
  unfold ptrV at HN ⊢
  by_cases hr : r.fk = 0
  · obtain rfl := hok hr
    rw [errV_ok hr] at HN
    clear hok hbd hr
    by_cases hv : most < v
    · have hv2 : (most : Int) < v := by omega
      have HP : Hid (Cd.Rd.txt s size most (Cd.Rd.at_ p) = ([], ⟨p + size, 14, p⟩)) := by
        rw [Hid, HFl.out, if_pos hv]
        unfold Cd.Rd.no Cd.Rd.at_ Cd.Rd.text
        rw [if_pos rfl, if_neg (fun h => by have := h.1; simp at this)]
        simp [Cd.Rd.no]
      go_enter Tryz.func49, Tryz.ntmps49
      go_wp2_with (first
        | (go_at_call 83; refine HN.out.mono ?_; clear HN; rintro en w1 ⟨rfl, h1, hg1⟩
           replace h1 := hid h1
           replace hg1 := hid hg1)
        | (go_at_call 82; refine (broken_c _ _ _).mono ?_; rintro en w9 ⟨rfl, hw9⟩; obtain rfl := hw9.symm)
        | go_in)
      rw [HP.out]
      exact bodyPost_ret (v := .tuple #[.string ⟨#[]⟩, .iface 78 (.agg #[.int .i64 14, .int .i64 p])]) (by simp [results, Tryz.results49, go_sem]) rfl ⟨by rw [errV_no (by simp)]; rfl, h1.out, hg1.out⟩
    · have hv2 : ¬ (most : Int) < v := by omega
      have HP : Hid (Cd.Rd.txt s size most (Cd.Rd.at_ p) = Cd.Rd.text s v (Cd.Rd.at_ (p + size))) := by rw [Hid, HFl.out, if_neg hv]
      have HT := hid (fun (W : World) (hw : PM W b s (p + size)) => take_c W b s (p + size) v hw hs hle (by omega))
      have hln := text_len s (p + size) v (by omega)
      generalize Cd.Rd.text s v (Cd.Rd.at_ (p + size)) = tr at HT HP hln
      obtain ⟨t, r2⟩ := tr
      dsimp only at HT HP hln
      unfold ptrV at HT
      have HC := hid (fun W => clone_c t W hln)
      go_enter Tryz.func49, Tryz.ntmps49
      go_wp2_with (first
        | (go_at_call 83; refine HN.out.mono ?_; clear HN; rintro en w1 ⟨rfl, h1, hg1⟩
           replace h1 := hid h1
           replace hg1 := hid hg1)
        | (go_at_call 81; refine (HT.out _ h1.out).mono ?_; clear HT; rintro en w2 ⟨rfl, h2, hg2⟩
           generalize hev : errV r2 = ev
           replace hev := hid hev
           replace h2 := hid h2
           replace hg2 := hid hg2)
        | (go_at_call 84; refine (HC.out _).mono ?_; clear HC; rintro en w3 ⟨rfl, h3⟩
           replace h3 := hid h3)
        | go_in)
      rw [HP.out]
      exact bodyPost_ret (v := .tuple #[.string ⟨t.toArray⟩, ev]) (by simp [results, Tryz.results49, go_sem]) rfl ⟨by rw [← hev.out], h2.out.keep h3.out, grown_trans (grown_trans hg1.out hg2.out) (bg h3.out)⟩
  · have hb := hbd hr
    simp only [Prod.mk.injEq] at hb
    obtain ⟨rfl, rfl⟩ := hb
    have HP : Hid (Cd.Rd.txt s size most (Cd.Rd.at_ p) = ([], ⟨p, 13, s.length⟩)) := by
      rw [Hid, HFl.out, if_neg (by omega)]
      unfold Cd.Rd.text
      rw [if_neg (fun h => by have := h.1; simp at this)]
      simp [Cd.Rd.no]
    rw [errV_no hr] at HN
    clear hok hbd hr
    go_enter Tryz.func49, Tryz.ntmps49
    go_wp2_with (first
      | (go_at_call 83; refine HN.out.mono ?_; clear HN; rintro en w1 ⟨rfl, h1, hg1⟩
         replace h1 := hid h1
         replace hg1 := hid hg1)
      | go_in)
    rw [HP.out]
    exact bodyPost_ret (v := .tuple #[.string ⟨#[]⟩, .iface 78 (.agg #[.int .i64 13, .int .i64 s.length])]) (by simp [results, Tryz.results49, go_sem]) rfl ⟨by rw [errV_no (by simp)]; rfl, h1.out, hg1.out⟩
end Go.Proofs.YtpjbfdpblgjmfaaGreatDoor
