/-
  The program's reader in memory: left, brokenAt, take, number, flag.
-/
import Derived.Test.YtpjbfdpblgjmfaaGreatDoorMA
import Derived.Deep.Cut
import Derived.BigRegion
import Derived.Deep.QuietTactic
import Derived.BigQuiet
set_option linter.unusedVariables false
set_option linter.unusedSimpArgs false
namespace Go.Proofs.YtpjbfdpblgjmfaaGreatDoor
open Go.RowKit Go.Lib

/-- The program's reader, in the block b. -/
def PM (w : World) (b : Nat) (s : List UInt8) (p : Nat) : Prop := w.heap[b]? = some (.cells #[.string ⟨s.toArray⟩, .int .i64 p] 72 (0, 0))
theorem PM.cells {w : World} {b : Nat} {s : List UInt8} {p : Nat} (h : PM w b s p) : w.cell? ⟨b, 0, none⟩ = some (.string ⟨s.toArray⟩) ∧ w.cell? ⟨b, 1, none⟩ = some (.int .i64 p) ∧ ∀ i, w.frozen? ⟨b, i, none⟩ = false := by
  unfold PM at h
  refine ⟨?_, ?_, fun i => ?_⟩ <;> simp [World.cell?, World.frozen?, h]
theorem PM.lt {w : World} {b : Nat} {s : List UInt8} {p : Nat} (h : PM w b s p) : b < w.heap.size := (Array.getElem?_eq_some_iff.1 h).1
theorem PM.pos {w : World} {b : Nat} {s : List UInt8} {p : Nat} (h : PM w b s p) (q : Nat) : PM (w.setCell ⟨b, 1, none⟩ (.int .i64 q)) b s q := by
  unfold PM at h ⊢
  rw [setCell_eq_setRow w b 1 _ _ _ _ h]
  exact setRow_heap w b _ _ _ _ h
/-- A fault as the program's error; none: nil. -/
def errV (r : Cd.Rd) : Value := if r.fk = 0 then .nilIface else .iface 78 (.agg #[.int .i64 (r.fk : Nat), .int .i64 (r.fa : Nat)])
theorem errV_ok {r : Cd.Rd} (h : r.fk = 0) : errV r = .nilIface := by simp [errV, h]
theorem errV_no {r : Cd.Rd} (h : r.fk ≠ 0) : errV r = .iface 78 (.agg #[.int .i64 (r.fk : Nat), .int .i64 (r.fa : Nat)]) := by simp [errV, h]
/-- The reader at a place, without a fault. -/
def Cd.Rd.at_ (p : Nat) : Cd.Rd := ⟨p, 0, 0⟩
theorem grown_drewN {w w' : World} {o : Option Nat} {n : Nat} (h : w.grownBy w' o) : w.grownBy (w'.drewN n) o := ⟨h.os, h.tape, h.output, h.size, h.block⟩

theorem broken_c (k a : Int) (w : World) :
    Calls Tryz.prog 82 #[.int .i64 k, .int .i64 a] w fun e w' => e = .returned (.iface 78 (.agg #[.int .i64 k, .int .i64 a])) ∧ w' = w := by
  go_enter Tryz.func82, Tryz.ntmps82
  go_wp2
  go_ret
  exact ⟨rfl, rfl⟩
theorem left_c (w : World) (b : Nat) (s : List UInt8) (p : Nat) (h : PM w b s p) (hs : s.length ≤ 4000000) (hp : p ≤ s.length) :
    Calls Tryz.prog 85 #[ptrV b] w fun e w' => e = .returned (.int .i64 ((s.length - p : Nat) : Int)) ∧ ∃ n, w' = w.drewN n := by
  obtain ⟨c0, c1, hf⟩ := h.cells
  have hsz := size_mk s
  have hw : IntKind.i64.wrap ((s.length : Int) - p) = ((s.length - p : Nat) : Int) := by rw [IntKind.wrap_i64]; omega
  unfold ptrV
  go_enter Tryz.func85, Tryz.ntmps85
  go_wp2
  go_quiet (fail)
  go_wp2
  go_ret
  exact ⟨rfl, nq, rfl⟩

def TkPost (w : World) (b : Nat) (s : List UInt8) (t : List UInt8) (r : Cd.Rd) (e : Ending) (w' : World) : Prop := e = .returned (.tuple #[.string ⟨t.toArray⟩, errV r]) ∧ PM w' b s r.pos ∧ w.grownBy w' (some b)
set_option maxHeartbeats 2000000 in
theorem take_c (w : World) (b : Nat) (s : List UInt8) (p n : Nat) (h : PM w b s p) (hs : s.length ≤ 4000000) (hp : p ≤ s.length) (hn : n ≤ 65535) :
    Calls Tryz.prog 81 #[ptrV b, .int .i64 n] w (TkPost w b s (Cd.Rd.text s n (Cd.Rd.at_ p)).1 (Cd.Rd.text s n (Cd.Rd.at_ p)).2) := by
  obtain ⟨c0, c1, hf⟩ := h.cells
  have hsz := size_mk s
  have H := hid h
  have HL := hid (left_c w b s p h hs hp)
  clear h
  unfold ptrV at HL ⊢
  by_cases hh : p + n ≤ s.length
  · have HP : Hid (Cd.Rd.text s n (Cd.Rd.at_ p) = ((s.drop p).take n, ⟨p + n, 0, 0⟩)) := by
      rw [Hid, Cd.Rd.text, if_pos (show (Cd.Rd.at_ p).has s n from ⟨rfl, hh⟩)]
      rfl
    have hle : ¬ (((s.length - p : Nat) : Int) < (n : Int)) := by omega
    have hw : IntKind.i64.wrap ((p : Int) + n) = p + n := by rw [IntKind.wrap_i64]; omega
    have hw2 : IntKind.i64.wrap ((p : Int) + n - n) = p := by rw [IntKind.wrap_i64]; omega
    have hw3 : IntKind.i64.wrap (p : Int) = p := by rw [IntKind.wrap_i64]; omega
    have kX := fun (W : World) => run_slice_string (P := Tryz.prog) W 9 (⟨s.toArray⟩ : ByteArray) .i64 .i64 (p : Int) ((p : Int) + n) Tryz.underlying9 (by omega) (by omega) (by rw [hsz]; omega)
    have HPn := hid (H.out.pos (p + n))
    go_enter Tryz.func81, Tryz.ntmps81
    go_upto_region 4 with (first
      | (go_at_call 85; refine HL.out.mono ?_; clear HL; rintro en w1 ⟨rfl, n1, hw1⟩; obtain rfl := hw1)
      | go_in)
    have HW : Hid (PM ((w.drewN n1).setCell ⟨b, 1, none⟩ (.int .i64 ((p : Int) + n))) b s (p + n) ∧ w.grownBy ((w.drewN n1).setCell ⟨b, 1, none⟩ (.int .i64 ((p : Int) + n))) (some b)) := by
      refine ⟨?_, grown_set (grown_drewN (grown_refl _ _)) _⟩
      have := PM.pos (w := w.drewN n1) H.out (p + n)
      rw [Int.natCast_add] at this
      exact this
    clear HPn
    generalize hWW : (w.drewN n1).setCell ⟨b, 1, none⟩ (.int .i64 ((p : Int) + n)) = W at HW
    clear hWW c0 c1 hf
    obtain ⟨c0, c1, hf⟩ := HW.out.1.cells
    rw [Int.natCast_add] at c1
    go_quiet (fail)
    go_wp2
    rw [HP.out]
    refine bodyPost_ret (v := .tuple #[.string ⟨((s.drop p).take n).toArray⟩, .nilIface]) ?_ rfl ⟨?_, HW.out.1, grown_drewN HW.out.2⟩
    · have e2 : ((p : Int) + n).toNat = p + n := by omega
      have e3 : (⟨s.toArray⟩ : ByteArray).extract p (p + n) = ⟨((s.drop p).take n).toArray⟩ := by
        apply ByteArray.ext
        apply Array.ext'
        simp
      simp [results, Tryz.results81, go_sem, e2, e3]
    · rw [errV_ok rfl]
  · have HP : Hid (Cd.Rd.text s n (Cd.Rd.at_ p) = ([], ⟨p, 13, s.length⟩)) := by
      rw [Hid, Cd.Rd.text, if_neg (show ¬ (Cd.Rd.at_ p).has s n from fun h => hh h.2)]
      rfl
    have hle : (((s.length - p : Nat) : Int) < (n : Int)) := by omega
    go_enter Tryz.func81, Tryz.ntmps81
    go_wp2_with (first
      | (go_at_call 85; refine HL.out.mono ?_; clear HL; rintro en w1 ⟨rfl, n1, hw1⟩; obtain rfl := hw1)
      | (go_at_call 82; refine (broken_c _ _ _).mono ?_; rintro en w9 ⟨rfl, hw9⟩; obtain rfl := hw9.symm)
      | go_in)
    rw [HP.out]
    refine bodyPost_ret (v := .tuple #[.string ⟨#[]⟩, .iface 78 (.agg #[.int .i64 13, .int .i64 s.length])]) (by simp [results, Tryz.results81, go_sem]) rfl ⟨?_, H.out, grown_drewN (grown_refl _ _)⟩
    rw [errV_no (by simp)]
    rfl

def NmPost (w : World) (b : Nat) (s : List UInt8) (v : Int) (r : Cd.Rd) (e : Ending) (w' : World) : Prop := e = .returned (.tuple #[.int .i64 v, errV r]) ∧ PM w' b s r.pos ∧ w.grownBy w' (some b)
theorem text_num (s : List UInt8) (n : Nat) (r : Cd.Rd) : r.num s n = (Cd.num (r.text s n).1, (r.text s n).2) := by
  unfold Cd.Rd.num Cd.Rd.text
  split <;> simp [Cd.num]
/-- A byte behind a number. -/
theorem or_byte2 (v : Nat) (c : Nat) (hv : v < 72057594037927936) (hc : c < 256) : bits .or .i64 (IntKind.i64.wrap ((v : Int) * 256)) (c : Int) = Cd.sgn (v * 256 + c) := by
  have e1 : (BitVec.ofInt 64 (IntKind.i64.wrap ((v : Int) * 256))).toNat = v * 256 := by
    rw [BitVec.toNat_ofInt, IntKind.wrap_i64]
    omega
  have e2 : (BitVec.ofInt 64 (c : Int)).toNat = c := by
    rw [BitVec.toNat_ofInt]
    omega
  have e3 : v * 256 ||| c = v * 256 + c := by
    have := Nat.shiftLeft_add_eq_or_of_lt (i := 8) (b := c) hc v
    rw [Nat.shiftLeft_eq] at this
    exact this.symm
  have key : (BitVec.ofInt 64 (IntKind.i64.wrap ((v : Int) * 256)) ||| BitVec.ofInt 64 (c : Int)).toNat = v * 256 + c := by
    rw [BitVec.toNat_or, e1, e2, e3]
  show IntKind.i64.wrap ((BitVec.ofInt 64 (IntKind.i64.wrap ((v : Int) * 256)) ||| BitVec.ofInt 64 (c : Int)).toNat : Nat) = _
  rw [key, IntKind.wrap_i64]
  unfold Cd.sgn
  split <;> omega
theorem num_step (t : List UInt8) (i : Nat) (h : i < t.length) : Cd.num (t.take (i + 1)) = Cd.num (t.take i) * 256 + t[i].toNat := by
  rw [List.take_add_one, List.getElem?_eq_getElem h, Option.toList_some, Cd.num_snoc]

set_option maxHeartbeats 2000000 in
theorem number_c (w : World) (b : Nat) (s : List UInt8) (p n : Nat) (h : PM w b s p) (hs : s.length ≤ 4000000) (hp : p ≤ s.length) (hn : n ≤ 8) :
    Calls Tryz.prog 83 #[ptrV b, .int .i64 n] w (NmPost w b s (Cd.sgn (Cd.Rd.num s n (Cd.Rd.at_ p)).1) (Cd.Rd.num s n (Cd.Rd.at_ p)).2) := by
  have HT := hid (take_c w b s p n h hs hp (by omega))
  have HE := hid (text_num s n (Cd.Rd.at_ p))
  have hlen : (Cd.Rd.text s n (Cd.Rd.at_ p)).1.length ≤ n := by
    unfold Cd.Rd.text
    split
    · simp; omega
    · simp
  clear h
  generalize Cd.Rd.text s n (Cd.Rd.at_ p) = tr at HT HE hlen
  obtain ⟨t, r⟩ := tr
  dsimp only at HT HE hlen
  have hsz := size_mk t
  unfold ptrV at HT ⊢
  go_enter Tryz.func83, Tryz.ntmps83
  go_wp2_with (first
    | (go_at_call 81; refine HT.out.mono ?_; clear HT; rintro en w1 ⟨rfl, h1, hg1⟩
       replace h1 := hid h1
       replace hg1 := hid hg1)
    | go_in)
  generalize hev : errV r = ev
  have HEv := hid hev
  clear hev
  go_loop [8, 18] (fun v t' => ∃ i : Nat, t' = .int .i64 i ∧ v = .int .i64 (Cd.sgn (Cd.num (t.take i))) ∧ i ≤ t.length) (fun _ t' => t.length - (intOf t').toNat)
  case atStart => exact ⟨0, rfl, by simp [Cd.num, Cd.sgn], Nat.zero_le _⟩
  case round =>
    obtain ⟨i, rfl, rfl, hi⟩ := hrel
    by_cases hlt : i < t.length
    · have hgl : (i : Int) < t.length := by omega
      have hv : Cd.num (t.take i) < 72057594037927936 := by
        have h2 := Cd.num_lt (t.take i)
        have h3 : (t.take i).length ≤ 7 := by simp; omega
        have h4 : 256 ^ (t.take i).length ≤ 256 ^ 7 := Nat.pow_le_pow_right (by decide) h3
        omega
      have HNX := hid (num_step t i hlt)
      generalize Cd.num (t.take i) = v at hv HNX
      rw [Cd.sgn_small (by omega)]
      obtain ⟨c, hc0⟩ : ∃ c, t[i] = c := ⟨_, rfl⟩
      rw [hc0] at HNX
      have hg : ∀ hx, (⟨t.toArray⟩ : ByteArray)[i]'hx = c := fun _ => hc0
      have hor := or_byte2 v c.toNat hv c.toNat_lt
      have hcw : IntKind.i64.wrap (c.toNat : Int) = c.toNat := by
        have := c.toNat_lt
        rw [IntKind.wrap_i64]
        omega
      clear hc0
      go_wp2
      go_round
      case rel => exact ⟨i + 1, by simp, by rw [HNX.out, ← hor, IntWalk.i64_left], by omega⟩
      case measure => simp [intOf]; omega
    · have e : i = t.length := by omega
      subst e
      have hgl : ¬ (t.length : Int) < t.length := by omega
      go_wp2
      rw [HE.out]
      refine bodyPost_ret (v := .tuple #[.int .i64 (Cd.sgn (Cd.num t)), ev]) ?_ rfl ⟨by rw [HEv.out], h1.out, hg1.out⟩
      simp [results, Tryz.results83, go_sem]
end Go.Proofs.YtpjbfdpblgjmfaaGreatDoor
