/-
  The document's Reader in memory: no, ok, num, text, flag.
  The document's Reader reads an instruction.
-/
import Derived.Test.YtpjbfdpblgjmfaaGreatDoorMA
import Derived.Deep.Cut
import Derived.BigRegion
set_option linter.unusedVariables false
set_option linter.unusedSimpArgs false
namespace Go.Proofs.YtpjbfdpblgjmfaaGreatDoor
open Go.RowKit Go.Lib

/-- A Reader in the block b. -/
def RdM (w : World) (b : Nat) (s : List UInt8) (r : Cd.Rd) : Prop :=
  w.heap[b]? = some (.cells #[.string ⟨s.toArray⟩, .int .i64 r.pos, .int .i64 r.fk, .int .i64 r.fa] 115 (0, 0))
theorem RdM.cells {w : World} {b : Nat} {s : List UInt8} {r : Cd.Rd} (h : RdM w b s r) : w.cell? ⟨b, 0, none⟩ = some (.string ⟨s.toArray⟩) ∧ w.cell? ⟨b, 1, none⟩ = some (.int .i64 r.pos) ∧ w.cell? ⟨b, 2, none⟩ = some (.int .i64 r.fk) ∧ w.cell? ⟨b, 3, none⟩ = some (.int .i64 r.fa) ∧ ∀ i, w.frozen? ⟨b, i, none⟩ = false := by
  unfold RdM at h
  refine ⟨?_, ?_, ?_, ?_, fun i => ?_⟩ <;> simp [World.cell?, World.frozen?, h]
theorem RdM.lt {w : World} {b : Nat} {s : List UInt8} {r : Cd.Rd} (h : RdM w b s r) : b < w.heap.size := (Array.getElem?_eq_some_iff.1 h).1
theorem RdM.pos {w : World} {b : Nat} {s : List UInt8} {r : Cd.Rd} (h : RdM w b s r) (p : Nat) : RdM (w.setCell ⟨b, 1, none⟩ (.int .i64 p)) b s ⟨p, r.fk, r.fa⟩ := by
  unfold RdM at h ⊢
  rw [setCell_eq_setRow w b 1 _ _ _ _ h]
  exact setRow_heap w b _ _ _ _ h
theorem RdM.fault {w : World} {b : Nat} {s : List UInt8} {r : Cd.Rd} (h : RdM w b s r) (k a : Nat) : RdM ((w.setCell ⟨b, 2, none⟩ (.int .i64 k)).setCell ⟨b, 3, none⟩ (.int .i64 a)) b s ⟨r.pos, k, a⟩ := by
  have h1 : (w.setCell ⟨b, 2, none⟩ (.int .i64 k)).heap[b]? = some (.cells #[.string ⟨s.toArray⟩, .int .i64 r.pos, .int .i64 k, .int .i64 r.fa] 115 (0, 0)) := by
    unfold RdM at h
    rw [setCell_eq_setRow w b 2 _ _ _ _ h]
    exact setRow_heap w b _ _ _ _ h
  unfold RdM
  rw [setCell_eq_setRow _ b 3 _ _ _ _ h1]
  exact setRow_heap _ b _ _ _ _ h1
theorem ok_any (w : World) (b : Nat) (s : List UInt8) (r : Cd.Rd) (h : RdM w b s r) :
    Calls Tryz.prog 34 #[ptrV b] w fun e w' => e = .returned (.bool (decide (r.fk = 0))) ∧ w' = w := by
  obtain ⟨c0, c1, c2, c3, hf⟩ := h.cells
  unfold ptrV
  go_enter Tryz.func34, Tryz.ntmps34
  go_wp2
  all_goals
    go_ret
    refine ⟨ret_bool ?_, rfl⟩
    rw [Bool.eq_iff_iff]
    simp
    try omega

set_option maxHeartbeats 2000000 in
theorem no_any (w : World) (b : Nat) (s : List UInt8) (r : Cd.Rd) (k a : Nat) (h : RdM w b s r) :
    Calls Tryz.prog 31 #[ptrV b, .int .i64 k, .int .i64 a] w fun e w' => e = .returned (.tuple #[]) ∧ RdM w' b s (r.no k a) ∧ w.grownBy w' (some b) := by
  obtain ⟨c0, c1, c2, c3, hf⟩ := h.cells
  have H := hid h
  clear h
  unfold ptrV
  go_enter Tryz.func31, Tryz.ntmps31
  by_cases h0 : r.fk = 0
  · go_wp2
    refine bodyPost_end (results_none rfl _ _ _) rfl ⟨rfl, ?_, grown_set (grown_set (grown_refl _ _) _) _⟩
    rw [Cd.Rd.no, if_pos h0]
    exact H.out.fault k a
  · go_wp2
    refine bodyPost_end (results_none rfl _ _ _) rfl ⟨rfl, ?_, grown_refl _ _⟩
    rw [Cd.Rd.no, if_neg h0]
    exact H.out

/-- A byte behind a number. -/
theorem or_byte (v : Nat) (c : Nat) (hv : v < 72057594037927936) (hc : c < 256) : bits .or .i64 (IntKind.i64.wrap ((v : Int) * 256)) (c : Int) = Cd.sgn (v * 256 + c) := by
  have e1 : (BitVec.ofInt 64 (IntKind.i64.wrap ((v : Int) * 256))).toNat = v * 256 := by
    rw [BitVec.toNat_ofInt, IntKind.wrap_i64]
    omega
  have e2 : (BitVec.ofInt 64 (c : Int)).toNat = c := by
    rw [BitVec.toNat_ofInt]
    omega
  have e3 : v * 256 ||| c = v * 256 + c := by
    have := Nat.shiftLeft_add_eq_or_of_lt (i := 8) (b := c) hc v
    rw [Nat.shiftLeft_eq] at this
    exact this.symm
  have key : (BitVec.ofInt 64 (IntKind.i64.wrap ((v : Int) * 256)) ||| BitVec.ofInt 64 (c : Int)).toNat = v * 256 + c := by
    rw [BitVec.toNat_or, e1, e2, e3]
  show IntKind.i64.wrap ((BitVec.ofInt 64 (IntKind.i64.wrap ((v : Int) * 256)) ||| BitVec.ofInt 64 (c : Int)).toNat : Nat) = _
  rw [key, IntKind.wrap_i64]
  unfold Cd.sgn
  split <;> omega

set_option maxHeartbeats 2000000 in
theorem num_any (w : World) (b : Nat) (s : List UInt8) (r : Cd.Rd) (n : Nat) (h : RdM w b s r) (hs : s.length ≤ 4000000) (hp : r.pos ≤ 4000003) (hn : n ≤ 8) :
    Calls Tryz.prog 33 #[ptrV b, .int .i64 n] w fun e w' => e = .returned (.int .i64 (Cd.sgn (r.num s n).1)) ∧ RdM w' b s (r.num s n).2 ∧ w.grownBy w' (some b) := by
  obtain ⟨c0, c1, c2, c3, hf⟩ := h.cells
  have hsz := size_mk s
  have H := hid h
  clear h
  unfold ptrV
  by_cases hh : r.has s n
  · obtain ⟨h0, h1⟩ := hh
    have HH : Hid (r.has s n) := ⟨h0, h1⟩
    have hwr : IntKind.i64.wrap ((r.pos : Int) + n) = r.pos + n := by rw [IntKind.wrap_i64]; omega
    have hle : ¬ ((s.length : Int) < (r.pos : Int) + n) := by omega
    go_enter Tryz.func33, Tryz.ntmps33
    go_wp2_with fail
    go_region_held3 (fun w' => w'.cell? ⟨b, 0, none⟩ = some (.string ⟨s.toArray⟩) ∧ w'.cell? ⟨b, 1, none⟩ = some (.int .i64 r.pos) ∧ w'.cell? ⟨b, 2, none⟩ = some (.int .i64 r.fk)) (go_keep) (fail)
    go_wp2_with fail
    have HV0 : Hid (RdM w.drew b s r) := H.out
    have HG0 : Hid (w.grownBy w.drew (some b)) := grown_drew (grown_refl _ _)
    clear c0 c1 c2 c3 hf
    go_loopw [5, 6] (fun t i wr => ∃ k : Nat, t = .int .i64 (Cd.sgn (Cd.num ((s.drop r.pos).take k))) ∧ i = .int .i64 k ∧ k ≤ n ∧ Hid (RdM wr b s r) ∧ Hid (w.grownBy wr (some b))) (fun _ i _ => n - (intOf i).toNat)
    case atStart => exact ⟨0, by simp [Cd.num, Cd.sgn], rfl, Nat.zero_le _, HV0, HG0⟩
    case round =>
      obtain ⟨k, rfl, rfl, hk, HV, HG⟩ := hrel
      obtain ⟨c0, c1, c2, c3, hf⟩ := HV.out.cells
      by_cases hlt : k < n
      · have hi : r.pos + k < s.length := by omega
        have hv : Cd.num ((s.drop r.pos).take k) < 72057594037927936 := by
          have h2 := Cd.num_lt ((s.drop r.pos).take k)
          have h3 : ((s.drop r.pos).take k).length ≤ 7 := by simp; omega
          have h4 : 256 ^ ((s.drop r.pos).take k).length ≤ 256 ^ 7 := Nat.pow_le_pow_right (by decide) h3
          omega
        have hnx : Cd.num ((s.drop r.pos).take (k + 1)) = Cd.num ((s.drop r.pos).take k) * 256 + s[r.pos + k].toNat := by
          rw [List.take_add_one, List.getElem?_drop, List.getElem?_eq_getElem hi, Option.toList_some, Cd.num_snoc]
        have HNX := hid hnx
        clear hnx
        generalize Cd.num ((s.drop r.pos).take k) = v at hv HNX
        rw [Cd.sgn_small (by omega)]
        have hor := or_byte v s[r.pos + k].toNat hv s[r.pos + k].toNat_lt
        have hwk : IntKind.i64.wrap ((r.pos : Int) + k) = r.pos + k := by rw [IntKind.wrap_i64]; omega
        have hi0 : (0 : Int) ≤ (r.pos : Int) + k := by omega
        have hi1 : (r.pos : Int) + k < s.length := by omega
        go_wp2_with fail
        go_region_held3 (fun w' => w'.cell? ⟨b, 0, none⟩ = some (.string ⟨s.toArray⟩) ∧ w'.cell? ⟨b, 1, none⟩ = some (.int .i64 r.pos)) (go_keep) (fail)
        go_wp2_with fail
        refine ⟨⟨k + 1, ?_, by simp, by omega, HV.out, grown_drew HG.out⟩, by simp [intOf]; omega⟩
        rw [HNX.out, ← hor]
        have e1 : ∀ (hx : ((r.pos : Int) + k).toNat < (⟨s.toArray⟩ : ByteArray).size), (⟨s.toArray⟩ : ByteArray)[((r.pos : Int) + k).toNat]'hx = s[r.pos + k] := by
          intro hx
          have e2 : ((r.pos : Int) + k).toNat = r.pos + k := by omega
          simp only [e2]
          rfl
        rw [e1]
        have e3 : IntKind.i64.wrap ((s[r.pos + k].toNat : Nat) : Int) = s[r.pos + k].toNat := by
          have := s[r.pos + k].toNat_lt
          rw [IntKind.wrap_i64]
          omega
        rw [e3]
      · have ek : k = n := by omega
        subst ek
        go_wp2_with fail
        go_ret
        have hnum : r.num s k = (Cd.num ((s.drop r.pos).take k), ⟨r.pos + k, r.fk, r.fa⟩) := by rw [Cd.Rd.num, if_pos HH.out]
        rw [hnum]
        refine ⟨rfl, ?_, grown_set HG.out _⟩
        have := HV.out.pos (r.pos + k)
        rw [Int.natCast_add] at this
        exact this
  · go_enter Tryz.func33, Tryz.ntmps33
    rw [Cd.Rd.num, if_neg hh]
    have hh2 : r.fk ≠ 0 ∨ (r.fk = 0 ∧ s.length < r.pos + n) := by
      unfold Cd.Rd.has at hh
      omega
    clear hh
    have hbt : r.fk ≠ 0 → (((r.fk : Nat) : Int) == 0) = false := fun h => by simp; omega
    rcases hh2 with h0 | ⟨h0, h1⟩
    · have hb := hbt h0
      clear hbt
      have hb2 : (((r.fk : Nat) : Int) != 0) = true := by simp; omega
      go_wp2_with fail
      go_region
      all_goals go_wp2_with (first
        | (go_at_call 31; refine (no_any _ b s r 13 s.length (by exact H.out)).mono ?_; rintro en w1 ⟨rfl, hr1, hg1⟩
           have HR := hid hr1
           have HG := hid hg1
           clear hr1 hg1)
        | fail)
      go_ret
      exact ⟨rfl, HR.out, grown_trans (grown_drew (grown_refl _ _)) HG.out⟩
    · clear hbt
      have hwr : IntKind.i64.wrap ((r.pos : Int) + n) = r.pos + n := by rw [IntKind.wrap_i64]; omega
      have hle : (s.length : Int) < (r.pos : Int) + n := by omega
      go_wp2_with fail
      go_region_held3 (fun w' => w'.cell? ⟨b, 0, none⟩ = some (.string ⟨s.toArray⟩) ∧ w'.cell? ⟨b, 1, none⟩ = some (.int .i64 r.pos) ∧ w'.cell? ⟨b, 2, none⟩ = some (.int .i64 r.fk)) (go_keep) (fail)
      go_wp2_with (first
        | (go_at_call 31; refine (no_any _ b s r 13 s.length (by exact H.out)).mono ?_; rintro en w1 ⟨rfl, hr1, hg1⟩
           have HR := hid hr1
           have HG := hid hg1
           clear hr1 hg1)
        | fail)
      go_ret
      exact ⟨rfl, HR.out, grown_trans (grown_drew (grown_refl _ _)) HG.out⟩

set_option maxHeartbeats 2000000 in
theorem text_any (w : World) (b : Nat) (s : List UInt8) (r : Cd.Rd) (n : Nat) (h : RdM w b s r) (hs : s.length ≤ 4000000) (hp : r.pos ≤ 4000003) (hn : n ≤ 65535) :
    Calls Tryz.prog 32 #[ptrV b, .int .i64 n] w fun e w' => e = .returned (.string ⟨(r.text s n).1.toArray⟩) ∧ RdM w' b s (r.text s n).2 ∧ w.grownBy w' (some b) := by
  obtain ⟨c0, c1, c2, c3, hf⟩ := h.cells
  have hsz := size_mk s
  have H := hid h
  clear h
  unfold ptrV
  have hwr : IntKind.i64.wrap ((r.pos : Int) + n) = r.pos + n := by rw [IntKind.wrap_i64]; omega
  by_cases hh : r.has s n
  · obtain ⟨h0, h1⟩ := hh
    have HH : Hid (r.has s n) := ⟨h0, h1⟩
    have hle : ¬ ((s.length : Int) < (r.pos : Int) + n) := by omega
    go_enter Tryz.func32, Tryz.ntmps32
    go_wp2_with fail
    go_region_held3 (fun w' => w'.cell? ⟨b, 0, none⟩ = some (.string ⟨s.toArray⟩) ∧ w'.cell? ⟨b, 1, none⟩ = some (.int .i64 r.pos) ∧ w'.cell? ⟨b, 2, none⟩ = some (.int .i64 r.fk)) (go_keep) (fail)
    go_wp2_with fail
    have HW : Hid (RdM (w.setCell ⟨b, 1, none⟩ (.int .i64 ((r.pos : Int) + n))).drew b s ⟨r.pos + n, r.fk, r.fa⟩ ∧ w.grownBy (w.setCell ⟨b, 1, none⟩ (.int .i64 ((r.pos : Int) + n))).drew (some b)) := by
      refine ⟨?_, grown_drew (grown_set (grown_refl _ _) _)⟩
      have := RdM.pos H.out (r.pos + n)
      rw [Int.natCast_add] at this
      exact this
    generalize (w.setCell ⟨b, 1, none⟩ (.int .i64 ((r.pos : Int) + n))).drew = W at HW
    clear c0 c1 c2 c3 hf
    obtain ⟨c0, c1, c2, c3, hf⟩ := HW.out.1.cells
    dsimp only at c1 c2 c3
    rw [Int.natCast_add] at c1
    have hws : IntKind.i64.wrap ((r.pos : Int) + n - n) = r.pos := by rw [IntKind.wrap_i64]; omega
    have hws2 : IntKind.i64.wrap (r.pos : Int) = r.pos := by rw [IntKind.wrap_i64]; omega
    have hz0 : (0 : Int) ≤ r.pos := by omega
    have hz1 : (r.pos : Int) ≤ (r.pos : Int) + n := by omega
    have hz2 : (r.pos : Int) + n ≤ s.length := by omega
    have kX := fun (W : World) => run_slice_string (P := Tryz.prog) W 9 (⟨s.toArray⟩ : ByteArray) .i64 .i64 (r.pos : Int) ((r.pos : Int) + n) Tryz.underlying9 hz0 hz1 (by rw [hsz]; exact hz2)
    go_region_held3 (fun w' => w'.cell? ⟨b, 0, none⟩ = some (.string ⟨s.toArray⟩) ∧ w'.cell? ⟨b, 1, none⟩ = some (.int .i64 ((r.pos : Int) + n))) (go_keep) (fail)
    go_wp2_with fail
    go_ret
    have hnum : r.text s n = ((s.drop r.pos).take n, ⟨r.pos + n, r.fk, r.fa⟩) := by rw [Cd.Rd.text, if_pos HH.out]
    rw [hnum]
    refine ⟨?_, HW.out.1, grown_drew HW.out.2⟩
    have e2 : ((r.pos : Int) + n).toNat = r.pos + n := by omega
    show Ending.returned (Value.string ((⟨s.toArray⟩ : ByteArray).extract r.pos ((r.pos : Int) + n).toNat)) = _
    rw [e2]
    refine congrArg (fun x => Ending.returned (Value.string x)) ?_
    apply ByteArray.ext
    apply Array.ext'
    simp
  · go_enter Tryz.func32, Tryz.ntmps32
    rw [Cd.Rd.text, if_neg hh]
    have hh2 : r.fk ≠ 0 ∨ (r.fk = 0 ∧ s.length < r.pos + n) := by
      unfold Cd.Rd.has at hh
      omega
    clear hh
    rcases hh2 with h0 | ⟨h0, h1⟩
    · have hb : (((r.fk : Nat) : Int) == 0) = false := by simp; omega
      have hb2 : (((r.fk : Nat) : Int) != 0) = true := by simp; omega
      go_wp2_with fail
      go_region
      all_goals go_wp2_with (first
        | (go_at_call 31; refine (no_any _ b s r 13 s.length (by exact H.out)).mono ?_; rintro en w1 ⟨rfl, hr1, hg1⟩
           have HR := hid hr1
           have HG := hid hg1
           clear hr1 hg1)
        | fail)
      go_ret
      exact ⟨rfl, HR.out, grown_trans (grown_drew (grown_refl _ _)) HG.out⟩
    · have hle : (s.length : Int) < (r.pos : Int) + n := by omega
      go_wp2_with fail
      go_region_held3 (fun w' => w'.cell? ⟨b, 0, none⟩ = some (.string ⟨s.toArray⟩) ∧ w'.cell? ⟨b, 1, none⟩ = some (.int .i64 r.pos) ∧ w'.cell? ⟨b, 2, none⟩ = some (.int .i64 r.fk)) (go_keep) (fail)
      go_wp2_with (first
        | (go_at_call 31; refine (no_any _ b s r 13 s.length (by exact H.out)).mono ?_; rintro en w1 ⟨rfl, hr1, hg1⟩
           have HR := hid hr1
           have HG := hid hg1
           clear hr1 hg1)
        | fail)
      go_ret
      exact ⟨rfl, HR.out, grown_trans (grown_drew (grown_refl _ _)) HG.out⟩

theorem sgn_one (s : List UInt8) (r : Cd.Rd) : Cd.sgn (r.num s 1).1 = ((r.num s 1).1 : Int) := Cd.sgn_small (by have := Cd.num_one_lt s r; omega)
theorem sgn_two (s : List UInt8) (r : Cd.Rd) : Cd.sgn (r.num s 2).1 = ((r.num s 2).1 : Int) := Cd.sgn_small (by have := Cd.num_two_lt s r; omega)
theorem num_pos (s : List UInt8) (n : Nat) (r : Cd.Rd) : (r.num s n).2.pos ≤ max r.pos s.length := by
  unfold Cd.Rd.num Cd.Rd.no
  split
  · rename_i h
    have := h.2
    simp
    omega
  · split <;> simp <;> omega
theorem num_pos1 (s : List UInt8) (r : Cd.Rd) (h : 1 < (r.num s 1).1) : 1 ≤ (r.num s 1).2.pos := by
  unfold Cd.Rd.num at h ⊢
  split
  · simp
  · rename_i hn
    simp [hn] at h

set_option maxHeartbeats 2000000 in
theorem rflag_any (w : World) (b : Nat) (s : List UInt8) (r : Cd.Rd) (h : RdM w b s r) (hs : s.length ≤ 4000000) (hp : r.pos ≤ 4000003) :
    Calls Tryz.prog 35 #[ptrV b] w fun e w' => e = .returned (.bool (r.flag s).1) ∧ RdM w' b s (r.flag s).2 ∧ w.grownBy w' (some b) := by
  have HN := hid (num_any w b s r 1 h hs hp (by omega))
  rw [sgn_one] at HN
  have hlt := Cd.num_one_lt s r
  have hps := num_pos s 1 r
  have hp1 := num_pos1 s r
  have HE : Hid (r.flag s = ((r.num s 1).1 == 1, if 1 < (r.num s 1).1 then (r.num s 1).2.no 14 ((r.num s 1).2.pos - 1) else (r.num s 1).2)) := rfl
  generalize r.num s 1 = x at HN hlt hps hp1 HE
  obtain ⟨v, r1⟩ := x
  dsimp only at HN hlt hps hp1 HE
  unfold ptrV at HN ⊢
  go_enter Tryz.func35, Tryz.ntmps35
  by_cases hv : 1 < v
  · have hq := hp1 hv
    have hwp : IntKind.i64.wrap ((r1.pos : Int) - 1) = ((r1.pos - 1 : Nat) : Int) := by rw [IntKind.wrap_i64]; omega
    go_wp2_with (first
      | (go_at_call 33; refine HN.out.mono ?_; rintro en w1 ⟨rfl, hr1, hg1⟩
         have HR := hid hr1
         have HG := hid hg1
         obtain ⟨c0, c1, c2, c3, hf⟩ := hr1.cells
         clear hr1 hg1)
      | (go_at_call 31; refine (no_any _ b s r1 14 (r1.pos - 1) (by exact HR.out)).mono ?_; rintro en w2 ⟨rfl, hr2, hg2⟩
         have HR2 := hid hr2
         have HG2 := hid hg2
         clear hr2 hg2)
      | fail)
    all_goals
      go_ret
      rw [HE.out, if_pos hv]
      exact ⟨ret_bool (by rw [Bool.eq_iff_iff]; simp; omega), HR2.out, grown_trans HG.out HG2.out⟩
  · go_wp2_with (first
      | (go_at_call 33; refine HN.out.mono ?_; rintro en w1 ⟨rfl, hr1, hg1⟩
         have HR := hid hr1
         have HG := hid hg1
         obtain ⟨c0, c1, c2, c3, hf⟩ := hr1.cells
         clear hr1 hg1)
      | fail)
    all_goals
      go_ret
      rw [HE.out, if_neg hv]
      exact ⟨ret_bool (by rw [Bool.eq_iff_iff]; simp; omega), HR.out, HG.out⟩
end Go.Proofs.YtpjbfdpblgjmfaaGreatDoor

namespace Go.Proofs.YtpjbfdpblgjmfaaGreatDoor
open Go.RowKit Go.Lib

theorem num_posle {s : List UInt8} {n : Nat} {r : Cd.Rd} (hs : s.length ≤ 4000000) (hp : r.pos ≤ 4000003) : (r.num s n).2.pos ≤ 4000003 := by
  have := num_pos s n r
  omega
theorem num_fault (s : List UInt8) (n : Nat) (r : Cd.Rd) (h : (r.num s n).2.fk ≠ 0) : (r.num s n).1 = 0 := by
  unfold Cd.Rd.num at h ⊢
  split
  · rename_i hh
    rw [if_pos hh] at h
    exact absurd hh.1 h
  · rfl
theorem num_ok1 (s : List UInt8) (n : Nat) (r : Cd.Rd) (h : (r.num s n).2.fk = 0) : n ≤ (r.num s n).2.pos := by
  unfold Cd.Rd.num at h ⊢
  split
  · simp
  · rename_i hh
    rw [if_neg hh] at h
    unfold Cd.Rd.no at h
    split at h
    · cases h
    · rename_i h2
      exact absurd h h2

theorem RdM.alloc {w : World} {b : Nat} {s : List UInt8} {r : Cd.Rd} (h : RdM w b s r) (o : Obj) : RdM (w.alloc o) b s r := by
  unfold RdM at h ⊢
  rw [← h]
  exact Go.Deep.blk_alloc_lt _ _ _ (RdM.lt h)
theorem RdM.other {w : World} {b k i : Nat} {v : Value} {s : List UInt8} {r : Cd.Rd} (h : RdM w b s r) (hk : k ≠ b) : RdM (w.setCell ⟨k, i, none⟩ v) b s r := by
  unfold RdM at h ⊢
  rw [← h]
  exact Go.Deep.blk_setCell_other _ _ _ _ (fun e => hk (by simpa using e.symm))
theorem grown_new {w w' : World} {b k i : Nat} {v : Value} (h : w.grownBy w' (some b)) (hk : w.heap.size ≤ k) : w.grownBy (w'.setCell ⟨k, i, none⟩ v) (some b) := by
  refine ⟨h.os, h.tape, h.output, by simpa using h.size, fun j hj hne => ?_⟩
  rw [← h.block j hj hne]
  exact Go.Deep.blk_setCell_other _ _ _ _ (by simp; omega)
theorem form_four (op : Int) : Cd.form op = 8 ∨ Cd.form op = 1 ∨ Cd.form op = 2 ∨ Cd.form op = 0 := by
  unfold Cd.form
  split
  · simp
  · split
    · simp
    · split <;> simp
theorem zero4 {w w1 : World} {b : Nat} {v0 v1 v2 v3 : Value} {t : TypeId} (hne : w.heap.size ≠ b) (hg : (w.alloc (.cells #[v0, v1, v2, v3] t)).grownBy w1 (some b)) :
    w1.cell? ⟨w.heap.size, 0, none⟩ = some v0 ∧ w1.cell? ⟨w.heap.size, 1, none⟩ = some v1 ∧ w1.cell? ⟨w.heap.size, 2, none⟩ = some v2 ∧ w1.cell? ⟨w.heap.size, 3, none⟩ = some v3 :=
  ⟨grown_cell hg hne (by simp), grown_cell hg hne (by simp), grown_cell hg hne (by simp), grown_cell hg hne (by simp)⟩
theorem zero4f {w w1 : World} {b : Nat} {c : Array Value} {t : TypeId} (hne : w.heap.size ≠ b) (hg : (w.alloc (.cells c t)).grownBy w1 (some b)) (i : Nat) : w1.frozen? ⟨w.heap.size, i, none⟩ = false :=
  (grown_frozen hg hne (by simp)).trans (by simp [go_sem])

set_option maxHeartbeats 4000000 in
theorem rins_any (w : World) (b : Nat) (s : List UInt8) (r : Cd.Rd) (h : RdM w b s r) (hs : s.length ≤ 4000000) (hp : r.pos ≤ 4000003) :
    Calls Tryz.prog 36 #[ptrV b] w fun e w' => e = .returned (insV (r.ins s).1) ∧ RdM w' b s (r.ins s).2 ∧ w.grownBy w' (some b) := by
  have hb := h.lt
  have hne : w.heap.size ≠ b := by omega
  have HN := hid (fun (V : World) (hV : RdM V b s r) => num_any V b s r 1 hV hs hp (by omega))
  rw [sgn_one] at HN
  have hlt := Cd.num_one_lt s r
  have hps := num_posle (n := 1) hs hp
  have hok := num_ok1 s 1 r
  have hft := num_fault s 1 r
  have HE : Hid (r.ins s = (let a := r.num s 1
    if a.2.fk = 0 ∧ 23 ≤ a.1 then ((⟨0, 0, 0, 0⟩ : Cd.Ins), a.2.no 15 (a.2.pos - 1))
    else if Cd.form a.1 = 8 then (⟨a.1, 0, 0, Cd.sgn (a.2.num s 8).1⟩, (a.2.num s 8).2)
    else if Cd.form a.1 = 1 then (⟨a.1, (a.2.num s 2).1, 0, 0⟩, (a.2.num s 2).2)
    else if Cd.form a.1 = 2 then (⟨a.1, (a.2.num s 2).1, ((a.2.num s 2).2.num s 2).1, 0⟩, ((a.2.num s 2).2.num s 2).2)
    else (⟨a.1, 0, 0, 0⟩, a.2))) := rfl
  generalize r.num s 1 = x at HN hlt hps hok hft HE
  obtain ⟨v, r1⟩ := x
  dsimp only at HN hlt hps hok hft HE
  have H := hid h
  clear h
  unfold ptrV at HN ⊢
  by_cases hbad : r1.fk = 0 ∧ 23 ≤ v
  · obtain ⟨hb0, hb1⟩ := hbad
    have HB : Hid (r1.fk = 0 ∧ 23 ≤ v) := ⟨hb0, hb1⟩
    have hq := hok hb0
    have hwp : IntKind.i64.wrap ((r1.pos : Int) - 1) = ((r1.pos - 1 : Nat) : Int) := by rw [IntKind.wrap_i64]; omega
    go_enter Tryz.func36, Tryz.ntmps36
    go_wp2_with fail
    refine (HN.out _ (H.out.alloc _)).mono ?_
    rintro en w1 ⟨rfl, hr1, hg1⟩
    have HR1 := hid hr1
    have HG1 := hid (grown_trans (grown_alloc (grown_refl _ _) _) hg1)
    obtain ⟨p0, p1, p2, p3⟩ := zero4 hne hg1
    have q := zero4f hne hg1
    obtain ⟨c0, c1, c2, c3, hf⟩ := hr1.cells
    have hz1 : w.heap.size < w1.heap.size := World.block_lt_of_cell? w1 ⟨w.heap.size, 0, none⟩ p0
    clear hr1 hg1
    dsimp only
    go_wp2_with fail
    refine (ok_any w1 b s r1 HR1.out).mono ?_
    rintro en w2 ⟨rfl, hw2⟩
    have hw3 := hw2.symm
    subst hw3
    dsimp only
    go_wp2_with fail
    refine (no_any w1 b s r1 15 (r1.pos - 1) HR1.out).mono ?_
    rintro en w2 ⟨rfl, hr2, hg2⟩
    have HR2 := hid hr2
    have HG2 := hid hg2
    have o0 := grown_cell hg2 hne p0
    have o1 := grown_cell hg2 hne p1
    have o2 := grown_cell hg2 hne p2
    have o3 := grown_cell hg2 hne p3
    have oq : ∀ i, w2.frozen? ⟨w.heap.size, i, none⟩ = false := fun i => (grown_frozen hg2 hne hz1).trans (q i)
    clear hr2 hg2
    dsimp only
    go_wp2_with fail
    refine bodyPost_ret (v := insV ⟨0, 0, 0, 0⟩) (by simp [results, Tryz.results36, go_sem, insV, o0, o1, o2, o3]) rfl ?_
    rw [HE.out, if_pos HB.out]
    exact ⟨rfl, ((((HR2.out.other hne).other hne).other hne).other hne), grown_new (grown_new (grown_new (grown_new (grown_trans HG1.out HG2.out) (Nat.le_refl _)) (Nat.le_refl _)) (Nat.le_refl _)) (Nat.le_refl _)⟩
  · have HNB := hid hbad
    have hv : v < 23 := by
      by_cases h0 : r1.fk = 0
      · by_cases h1 : 23 ≤ v
        · exact absurd ⟨h0, h1⟩ hbad
        · omega
      · have := hft h0
        omega
    clear hbad hok hft
    have hvi : ¬ ((23 : Int) ≤ (v : Int)) := by omega
    by_cases h0 : r1.fk = 0
    all_goals
      go_enter Tryz.func36, Tryz.ntmps36
      go_wp2_with fail
      refine (HN.out _ (H.out.alloc _)).mono ?_
      rintro en w1 ⟨rfl, hr1, hg1⟩
      have HR1 := hid hr1
      have HG1 := hid (grown_trans (grown_alloc (grown_refl _ _) _) hg1)
      obtain ⟨p0, p1, p2, p3⟩ := zero4 hne hg1
      have q := zero4f hne hg1
      obtain ⟨c0, c1, c2, c3, hf⟩ := hr1.cells
      have hz1 : w.heap.size < w1.heap.size := World.block_lt_of_cell? w1 ⟨w.heap.size, 0, none⟩ p0
      have hb1 : b < w1.heap.size := hr1.lt
      clear hr1 hg1
      dsimp only
      go_wp2_with fail
      refine (ok_any w1 b s r1 HR1.out).mono ?_
      rintro en w2 ⟨rfl, hw2⟩
      have hw3 := hw2.symm
      subst hw3
      dsimp only
      go_wp2_with fail
      refine (form_any (v : Int) _).mono ?_
      rintro en w2 ⟨rfl, rfl⟩
      dsimp only
      have HR2 := hid (HR1.out.alloc (.cells #[.int .i64 (v : Int), .int .i64 0, .int .i64 0, .int .i64 0] 123))
      have HG2 := hid (grown_alloc HG1.out (.cells #[.int .i64 (v : Int), .int .i64 0, .int .i64 0, .int .i64 0] 123))
      have hneX : w1.heap.size ≠ b := by omega
      have hnXY : w.heap.size ≠ w1.heap.size := by omega
      have r0 := kc ((Below.refl _ _).alloc (Nat.le_refl _) (.cells #[.int .i64 (v : Int), .int .i64 0, .int .i64 0, .int .i64 0] 123)) p0
      have r1' := kc ((Below.refl _ _).alloc (Nat.le_refl _) (.cells #[.int .i64 (v : Int), .int .i64 0, .int .i64 0, .int .i64 0] 123)) p1
      have r2 := kc ((Below.refl _ _).alloc (Nat.le_refl _) (.cells #[.int .i64 (v : Int), .int .i64 0, .int .i64 0, .int .i64 0] 123)) p2
      have r3 := kc ((Below.refl _ _).alloc (Nat.le_refl _) (.cells #[.int .i64 (v : Int), .int .i64 0, .int .i64 0, .int .i64 0] 123)) p3
      have rq : ∀ i, (w1.alloc (.cells #[.int .i64 (v : Int), .int .i64 0, .int .i64 0, .int .i64 0] 123)).frozen? ⟨w.heap.size, i, none⟩ = false := fun i => (World.frozen?_of_block (a := ⟨w.heap.size, i, none⟩) (Go.Deep.blk_alloc_lt _ _ _ hz1)).trans (q i)
      have hzA : w.heap.size < (w1.alloc (.cells #[.int .i64 (v : Int), .int .i64 0, .int .i64 0, .int .i64 0] 123)).heap.size := by simp; omega
      rcases form_four (v : Int) with hf8 | hf8 | hf8 | hf8
      · have HEx : Hid (r.ins s = (⟨v, 0, 0, Cd.sgn (r1.num s 8).1⟩, (r1.num s 8).2)) := by rw [Hid, HE.out, if_neg HNB.out, if_pos hf8]
        have hi8 : ((Cd.form (v : Int) : Nat) : Int) = 8 := by rw [hf8]; rfl
        rw [hi8]
        go_wp2_with fail
        refine (num_any _ b s r1 8 HR2.out hs hps (by omega)).mono ?_
        rintro en w3 ⟨rfl, hr3, hg3⟩
        have HR3 := hid hr3
        have HG3 := hid (grown_trans HG2.out hg3)
        obtain ⟨x0, x1, x2, x3⟩ := zero4 hneX hg3
        have xq := zero4f hneX hg3
        have y0 := grown_cell hg3 hne r0
        have y1 := grown_cell hg3 hne r1'
        have y2 := grown_cell hg3 hne r2
        have y3 := grown_cell hg3 hne r3
        have yq : ∀ i, w3.frozen? ⟨w.heap.size, i, none⟩ = false := fun i => (grown_frozen hg3 hne hzA).trans (rq i)
        clear hr3 hg3
        dsimp only
        generalize r1.num s 8 = z at HR3 HEx
        go_wp2_with fail
        refine bodyPost_ret (v := insV ⟨v, 0, 0, Cd.sgn z.1⟩) (by simp [results, Tryz.results36, go_sem, insV, y0, y1, y2, y3, hnXY]) rfl ?_
        rw [HEx.out]
        exact ⟨rfl, (((((HR3.out.other hneX).other hne).other hne).other hne).other hne), grown_new (grown_new (grown_new (grown_new (grown_new HG3.out (Nat.le_of_lt hz1)) (Nat.le_refl _)) (Nat.le_refl _)) (Nat.le_refl _)) (Nat.le_refl _)⟩
      · have HEx : Hid (r.ins s = (⟨v, (r1.num s 2).1, 0, 0⟩, (r1.num s 2).2)) := by rw [Hid, HE.out, if_neg HNB.out, if_neg (by omega), if_pos hf8]
        have hi8 : ((Cd.form (v : Int) : Nat) : Int) = 1 := by rw [hf8]; rfl
        rw [hi8]
        go_wp2_with fail
        have HNN := num_any _ b s r1 2 HR2.out hs hps (by omega)
        rw [sgn_two] at HNN
        refine HNN.mono ?_
        rintro en w3 ⟨rfl, hr3, hg3⟩
        have HR3 := hid hr3
        have HG3 := hid (grown_trans HG2.out hg3)
        obtain ⟨x0, x1, x2, x3⟩ := zero4 hneX hg3
        have xq := zero4f hneX hg3
        have y0 := grown_cell hg3 hne r0
        have y1 := grown_cell hg3 hne r1'
        have y2 := grown_cell hg3 hne r2
        have y3 := grown_cell hg3 hne r3
        have yq : ∀ i, w3.frozen? ⟨w.heap.size, i, none⟩ = false := fun i => (grown_frozen hg3 hne hzA).trans (rq i)
        clear hr3 hg3 HNN
        dsimp only
        generalize r1.num s 2 = z at HR3 HEx
        go_wp2_with fail
        refine bodyPost_ret (v := insV ⟨v, z.1, 0, 0⟩) (by simp [results, Tryz.results36, go_sem, insV, y0, y1, y2, y3, hnXY]) rfl ?_
        rw [HEx.out]
        exact ⟨rfl, (((((HR3.out.other hneX).other hne).other hne).other hne).other hne), grown_new (grown_new (grown_new (grown_new (grown_new HG3.out (Nat.le_of_lt hz1)) (Nat.le_refl _)) (Nat.le_refl _)) (Nat.le_refl _)) (Nat.le_refl _)⟩
      · have HEx : Hid (r.ins s = (⟨v, (r1.num s 2).1, ((r1.num s 2).2.num s 2).1, 0⟩, ((r1.num s 2).2.num s 2).2)) := by rw [Hid, HE.out, if_neg HNB.out, if_neg (by omega), if_neg (by omega), if_pos hf8]
        have hi8 : ((Cd.form (v : Int) : Nat) : Int) = 2 := by rw [hf8]; rfl
        rw [hi8]
        have hps2 := num_posle (n := 2) hs hps
        go_wp2_with fail
        have HNN := num_any _ b s r1 2 HR2.out hs hps (by omega)
        rw [sgn_two] at HNN
        refine HNN.mono ?_
        rintro en w3 ⟨rfl, hr3, hg3⟩
        have HR3 := hid hr3
        have HG3 := hid (grown_trans HG2.out hg3)
        obtain ⟨x0, x1, x2, x3⟩ := zero4 hneX hg3
        have xq := zero4f hneX hg3
        have y0 := grown_cell hg3 hne r0
        have y1 := grown_cell hg3 hne r1'
        have y2 := grown_cell hg3 hne r2
        have y3 := grown_cell hg3 hne r3
        have yq : ∀ i, w3.frozen? ⟨w.heap.size, i, none⟩ = false := fun i => (grown_frozen hg3 hne hzA).trans (rq i)
        have hzX : w1.heap.size < w3.heap.size := World.block_lt_of_cell? w3 ⟨w1.heap.size, 0, none⟩ x0
        have hzY : w.heap.size < w3.heap.size := Nat.lt_trans hz1 hzX
        clear hr3 hg3 HNN
        dsimp only
        generalize r1.num s 2 = z at HR3 HEx hps2
        go_wp2_with fail
        have HR4 := hid (HR3.out.other (v := .int .i64 (z.1 : Int)) (i := 1) hneX)
        have HG4 := hid (grown_new (v := .int .i64 (z.1 : Int)) (i := 1) HG3.out (Nat.le_of_lt hz1))
        have HNN := num_any _ b s z.2 2 HR4.out hs hps2 (by omega)
        rw [sgn_two] at HNN
        refine HNN.mono ?_
        rintro en w4 ⟨rfl, hr4, hg4⟩
        have HR5 := hid hr4
        have HG5 := hid (grown_trans HG4.out hg4)
        have a0 := grown_cell hg4 hneX (show (w3.setCell ⟨w1.heap.size, 1, none⟩ (.int .i64 (z.1 : Int))).cell? ⟨w1.heap.size, 0, none⟩ = some (.int .i64 (v : Int)) by simp [x0, go_sem])
        have a1 := grown_cell hg4 hneX (show (w3.setCell ⟨w1.heap.size, 1, none⟩ (.int .i64 (z.1 : Int))).cell? ⟨w1.heap.size, 1, none⟩ = some (.int .i64 (z.1 : Int)) by simp [x1, go_sem])
        have a2 := grown_cell hg4 hneX (show (w3.setCell ⟨w1.heap.size, 1, none⟩ (.int .i64 (z.1 : Int))).cell? ⟨w1.heap.size, 2, none⟩ = some (.int .i64 0) by simp [x2, go_sem])
        have a3 := grown_cell hg4 hneX (show (w3.setCell ⟨w1.heap.size, 1, none⟩ (.int .i64 (z.1 : Int))).cell? ⟨w1.heap.size, 3, none⟩ = some (.int .i64 0) by simp [x3, go_sem])
        have b0 := grown_cell hg4 hne (show (w3.setCell ⟨w1.heap.size, 1, none⟩ (.int .i64 (z.1 : Int))).cell? ⟨w.heap.size, 0, none⟩ = some (.int .i64 0) by simp [y0, go_sem, hnXY])
        have b1 := grown_cell hg4 hne (show (w3.setCell ⟨w1.heap.size, 1, none⟩ (.int .i64 (z.1 : Int))).cell? ⟨w.heap.size, 1, none⟩ = some (.int .i64 0) by simp [y1, go_sem, hnXY])
        have b2 := grown_cell hg4 hne (show (w3.setCell ⟨w1.heap.size, 1, none⟩ (.int .i64 (z.1 : Int))).cell? ⟨w.heap.size, 2, none⟩ = some (.int .i64 0) by simp [y2, go_sem, hnXY])
        have b3 := grown_cell hg4 hne (show (w3.setCell ⟨w1.heap.size, 1, none⟩ (.int .i64 (z.1 : Int))).cell? ⟨w.heap.size, 3, none⟩ = some (.int .i64 0) by simp [y3, go_sem, hnXY])
        have aq : ∀ i, w4.frozen? ⟨w1.heap.size, i, none⟩ = false := fun i => (grown_frozen hg4 hneX (by simpa using hzX)).trans (by simpa [go_sem] using xq i)
        have bq : ∀ i, w4.frozen? ⟨w.heap.size, i, none⟩ = false := fun i => (grown_frozen hg4 hne (by simpa using hzY)).trans (by simpa [go_sem] using yq i)
        clear hr4 hg4 HNN x0 x1 x2 x3 y0 y1 y2 y3 xq yq
        have y0 := b0
        have y1 := b1
        have y2 := b2
        have y3 := b3
        dsimp only
        generalize z.2.num s 2 = z2 at HR5 HEx
        go_wp2_with fail
        refine bodyPost_ret (v := insV ⟨v, z.1, z2.1, 0⟩) (by simp [results, Tryz.results36, go_sem, insV, y0, y1, y2, y3, hnXY]) rfl ?_
        rw [HEx.out]
        exact ⟨rfl, (((((HR5.out.other hneX).other hne).other hne).other hne).other hne), grown_new (grown_new (grown_new (grown_new (grown_new HG5.out (Nat.le_of_lt hz1)) (Nat.le_refl _)) (Nat.le_refl _)) (Nat.le_refl _)) (Nat.le_refl _)⟩
      · have HEx : Hid (r.ins s = (⟨v, 0, 0, 0⟩, r1)) := by rw [Hid, HE.out, if_neg HNB.out, if_neg (by omega), if_neg (by omega), if_neg (by omega)]
        have hi8 : ((Cd.form (v : Int) : Nat) : Int) = 0 := by rw [hf8]; rfl
        rw [hi8]
        have x0 : (w1.alloc (.cells #[.int .i64 (v : Int), .int .i64 0, .int .i64 0, .int .i64 0] 123)).cell? ⟨w1.heap.size, 0, none⟩ = some (.int .i64 (v : Int)) := by simp
        have x1 : (w1.alloc (.cells #[.int .i64 (v : Int), .int .i64 0, .int .i64 0, .int .i64 0] 123)).cell? ⟨w1.heap.size, 1, none⟩ = some (.int .i64 0) := by simp
        have x2 : (w1.alloc (.cells #[.int .i64 (v : Int), .int .i64 0, .int .i64 0, .int .i64 0] 123)).cell? ⟨w1.heap.size, 2, none⟩ = some (.int .i64 0) := by simp
        have x3 : (w1.alloc (.cells #[.int .i64 (v : Int), .int .i64 0, .int .i64 0, .int .i64 0] 123)).cell? ⟨w1.heap.size, 3, none⟩ = some (.int .i64 0) := by simp
        generalize w1.alloc (.cells #[.int .i64 (v : Int), .int .i64 0, .int .i64 0, .int .i64 0] 123) = A at HR2 HG2 r0 r1' r2 r3 rq hzA x0 x1 x2 x3 ⊢
        have y0 := r0
        have y1 := r1'
        have y2 := r2
        have y3 := r3
        go_wp2_with fail
        refine bodyPost_ret (v := insV ⟨v, 0, 0, 0⟩) (by simp [results, Tryz.results36, go_sem, insV, y0, y1, y2, y3, hnXY]) rfl ?_
        rw [HEx.out]
        exact ⟨rfl, ((((HR2.out.other hne).other hne).other hne).other hne), grown_new (grown_new (grown_new (grown_new HG2.out (Nat.le_refl _)) (Nat.le_refl _)) (Nat.le_refl _)) (Nat.le_refl _)⟩
end Go.Proofs.YtpjbfdpblgjmfaaGreatDoor
