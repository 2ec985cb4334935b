/-
  The document's Reader in memory: no, ok, num, text, flag.
-/
import Derived.Test.YticmoofjjikefaaDoorCf
import Derived.Test.YticmoofjjikefaaDoorCn
import Derived.Deep.Cut
import Derived.BigRegion
set_option linter.unusedVariables false
set_option linter.unusedSimpArgs false
namespace Go.Proofs.YticmoofjjikefaaDoor
open Go.RowKit Go.Lib

/-- A Reader in the block b. -/
def RdM (w : World) (b : Nat) (s : List UInt8) (r : Cd.Rd) : Prop :=
  w.heap[b]? = some (.cells #[.string ⟨s.toArray⟩, .int .i64 r.pos, .int .i64 r.fk, .int .i64 r.fa] 50 (0, 0))
theorem RdM.cells {w : World} {b : Nat} {s : List UInt8} {r : Cd.Rd} (h : RdM w b s r) : w.cell? ⟨b, 0, none⟩ = some (.string ⟨s.toArray⟩) ∧ w.cell? ⟨b, 1, none⟩ = some (.int .i64 r.pos) ∧ w.cell? ⟨b, 2, none⟩ = some (.int .i64 r.fk) ∧ w.cell? ⟨b, 3, none⟩ = some (.int .i64 r.fa) ∧ ∀ i, w.frozen? ⟨b, i, none⟩ = false := by
  unfold RdM at h
  refine ⟨?_, ?_, ?_, ?_, fun i => ?_⟩ <;> simp [World.cell?, World.frozen?, h]
theorem RdM.lt {w : World} {b : Nat} {s : List UInt8} {r : Cd.Rd} (h : RdM w b s r) : b < w.heap.size := (Array.getElem?_eq_some_iff.1 h).1
theorem RdM.pos {w : World} {b : Nat} {s : List UInt8} {r : Cd.Rd} (h : RdM w b s r) (p : Nat) : RdM (w.setCell ⟨b, 1, none⟩ (.int .i64 p)) b s ⟨p, r.fk, r.fa⟩ := by
  unfold RdM at h ⊢
  rw [setCell_eq_setRow w b 1 _ _ _ _ h]
  exact setRow_heap w b _ _ _ _ h
theorem RdM.fault {w : World} {b : Nat} {s : List UInt8} {r : Cd.Rd} (h : RdM w b s r) (k a : Nat) : RdM ((w.setCell ⟨b, 2, none⟩ (.int .i64 k)).setCell ⟨b, 3, none⟩ (.int .i64 a)) b s ⟨r.pos, k, a⟩ := by
  have h1 : (w.setCell ⟨b, 2, none⟩ (.int .i64 k)).heap[b]? = some (.cells #[.string ⟨s.toArray⟩, .int .i64 r.pos, .int .i64 k, .int .i64 r.fa] 50 (0, 0)) := by
    unfold RdM at h
    rw [setCell_eq_setRow w b 2 _ _ _ _ h]
    exact setRow_heap w b _ _ _ _ h
  unfold RdM
  rw [setCell_eq_setRow _ b 3 _ _ _ _ h1]
  exact setRow_heap _ b _ _ _ _ h1
theorem ok_any (w : World) (b : Nat) (s : List UInt8) (r : Cd.Rd) (h : RdM w b s r) :
    Calls Tryd.prog 14 #[ptrV b] w fun e w' => e = .returned (.bool (decide (r.fk = 0))) ∧ w' = w := by
  obtain ⟨c0, c1, c2, c3, hf⟩ := h.cells
  unfold ptrV
  go_enter Tryd.func14, Tryd.ntmps14
  go_wp2
  all_goals
    go_ret
    refine ⟨ret_bool ?_, rfl⟩
    rw [Bool.eq_iff_iff]
    simp
    try omega

set_option maxHeartbeats 2000000 in
theorem no_any (w : World) (b : Nat) (s : List UInt8) (r : Cd.Rd) (k a : Nat) (h : RdM w b s r) :
    Calls Tryd.prog 11 #[ptrV b, .int .i64 k, .int .i64 a] w fun e w' => e = .returned (.tuple #[]) ∧ RdM w' b s (r.no k a) ∧ w.grownBy w' (some b) := by
  obtain ⟨c0, c1, c2, c3, hf⟩ := h.cells
  have H := hid h
  clear h
  unfold ptrV
  go_enter Tryd.func11, Tryd.ntmps11
  by_cases h0 : r.fk = 0
  · go_wp2
    refine bodyPost_end (results_none rfl _ _ _) rfl ⟨rfl, ?_, grown_set (grown_set (grown_refl _ _) _) _⟩
    rw [Cd.Rd.no, if_pos h0]
    exact H.out.fault k a
  · go_wp2
    refine bodyPost_end (results_none rfl _ _ _) rfl ⟨rfl, ?_, grown_refl _ _⟩
    rw [Cd.Rd.no, if_neg h0]
    exact H.out

/-- A byte behind a number. -/
theorem or_byte (v : Nat) (c : Nat) (hv : v < 72057594037927936) (hc : c < 256) : bits .or .i64 (IntKind.i64.wrap ((v : Int) * 256)) (c : Int) = Cd.sgn (v * 256 + c) := by
  have e1 : (BitVec.ofInt 64 (IntKind.i64.wrap ((v : Int) * 256))).toNat = v * 256 := by
    rw [BitVec.toNat_ofInt, IntKind.wrap_i64]
    omega
  have e2 : (BitVec.ofInt 64 (c : Int)).toNat = c := by
    rw [BitVec.toNat_ofInt]
    omega
  have e3 : v * 256 ||| c = v * 256 + c := by
    have := Nat.shiftLeft_add_eq_or_of_lt (i := 8) (b := c) hc v
    rw [Nat.shiftLeft_eq] at this
    exact this.symm
  have key : (BitVec.ofInt 64 (IntKind.i64.wrap ((v : Int) * 256)) ||| BitVec.ofInt 64 (c : Int)).toNat = v * 256 + c := by
    rw [BitVec.toNat_or, e1, e2, e3]
  show IntKind.i64.wrap ((BitVec.ofInt 64 (IntKind.i64.wrap ((v : Int) * 256)) ||| BitVec.ofInt 64 (c : Int)).toNat : Nat) = _
  rw [key, IntKind.wrap_i64]
  unfold Cd.sgn
  split <;> omega

set_option maxHeartbeats 2000000 in
theorem num_any (w : World) (b : Nat) (s : List UInt8) (r : Cd.Rd) (n : Nat) (h : RdM w b s r) (hs : s.length ≤ 4000000) (hp : r.pos ≤ 4000003) (hn : n ≤ 8) :
    Calls Tryd.prog 13 #[ptrV b, .int .i64 n] w fun e w' => e = .returned (.int .i64 (Cd.sgn (r.num s n).1)) ∧ RdM w' b s (r.num s n).2 ∧ w.grownBy w' (some b) := by
  obtain ⟨c0, c1, c2, c3, hf⟩ := h.cells
  have hsz := size_mk s
  have H := hid h
  clear h
  unfold ptrV
  by_cases hh : r.has s n
  · obtain ⟨h0, h1⟩ := hh
    have HH : Hid (r.has s n) := ⟨h0, h1⟩
    have hwr : IntKind.i64.wrap ((r.pos : Int) + n) = r.pos + n := by rw [IntKind.wrap_i64]; omega
    have hle : ¬ ((s.length : Int) < (r.pos : Int) + n) := by omega
    go_enter Tryd.func13, Tryd.ntmps13
    go_wp2_with fail
    go_region_held3 (fun w' => w'.cell? ⟨b, 0, none⟩ = some (.string ⟨s.toArray⟩) ∧ w'.cell? ⟨b, 1, none⟩ = some (.int .i64 r.pos) ∧ w'.cell? ⟨b, 2, none⟩ = some (.int .i64 r.fk)) (go_keep) (fail)
    go_wp2_with fail
    have HV0 : Hid (RdM w.drew b s r) := H.out
    have HG0 : Hid (w.grownBy w.drew (some b)) := grown_drew (grown_refl _ _)
    clear c0 c1 c2 c3 hf
    go_loopw [5, 6] (fun t i wr => ∃ k : Nat, t = .int .i64 (Cd.sgn (Cd.num ((s.drop r.pos).take k))) ∧ i = .int .i64 k ∧ k ≤ n ∧ Hid (RdM wr b s r) ∧ Hid (w.grownBy wr (some b))) (fun _ i _ => n - (intOf i).toNat)
    case atStart => exact ⟨0, by simp [Cd.num, Cd.sgn], rfl, Nat.zero_le _, HV0, HG0⟩
    case round =>
      obtain ⟨k, rfl, rfl, hk, HV, HG⟩ := hrel
      obtain ⟨c0, c1, c2, c3, hf⟩ := HV.out.cells
      by_cases hlt : k < n
      · have hi : r.pos + k < s.length := by omega
        have hv : Cd.num ((s.drop r.pos).take k) < 72057594037927936 := by
          have h2 := Cd.num_lt ((s.drop r.pos).take k)
          have h3 : ((s.drop r.pos).take k).length ≤ 7 := by simp; omega
          have h4 : 256 ^ ((s.drop r.pos).take k).length ≤ 256 ^ 7 := Nat.pow_le_pow_right (by decide) h3
          omega
        have hnx : Cd.num ((s.drop r.pos).take (k + 1)) = Cd.num ((s.drop r.pos).take k) * 256 + s[r.pos + k].toNat := by
          rw [List.take_add_one, List.getElem?_drop, List.getElem?_eq_getElem hi, Option.toList_some, Cd.num_snoc]
        have HNX := hid hnx
        clear hnx
        generalize Cd.num ((s.drop r.pos).take k) = v at hv HNX
        rw [Cd.sgn_small (by omega)]
        have hor := or_byte v s[r.pos + k].toNat hv s[r.pos + k].toNat_lt
        have hwk : IntKind.i64.wrap ((r.pos : Int) + k) = r.pos + k := by rw [IntKind.wrap_i64]; omega
        have hi0 : (0 : Int) ≤ (r.pos : Int) + k := by omega
        have hi1 : (r.pos : Int) + k < s.length := by omega
        go_wp2_with fail
        go_region_held3 (fun w' => w'.cell? ⟨b, 0, none⟩ = some (.string ⟨s.toArray⟩) ∧ w'.cell? ⟨b, 1, none⟩ = some (.int .i64 r.pos)) (go_keep) (fail)
        go_wp2_with fail
        refine ⟨⟨k + 1, ?_, by simp, by omega, HV.out, grown_drew HG.out⟩, by simp [intOf]; omega⟩
        rw [HNX.out, ← hor]
        have e1 : ∀ (hx : ((r.pos : Int) + k).toNat < (⟨s.toArray⟩ : ByteArray).size), (⟨s.toArray⟩ : ByteArray)[((r.pos : Int) + k).toNat]'hx = s[r.pos + k] := by
          intro hx
          have e2 : ((r.pos : Int) + k).toNat = r.pos + k := by omega
          simp only [e2]
          rfl
        rw [e1]
        have e3 : IntKind.i64.wrap ((s[r.pos + k].toNat : Nat) : Int) = s[r.pos + k].toNat := by
          have := s[r.pos + k].toNat_lt
          rw [IntKind.wrap_i64]
          omega
        rw [e3]
      · have ek : k = n := by omega
        subst ek
        go_wp2_with fail
        go_ret
        have hnum : r.num s k = (Cd.num ((s.drop r.pos).take k), ⟨r.pos + k, r.fk, r.fa⟩) := by rw [Cd.Rd.num, if_pos HH.out]
        rw [hnum]
        refine ⟨rfl, ?_, grown_set HG.out _⟩
        have := HV.out.pos (r.pos + k)
        rw [Int.natCast_add] at this
        exact this
  · go_enter Tryd.func13, Tryd.ntmps13
    rw [Cd.Rd.num, if_neg hh]
    have hh2 : r.fk ≠ 0 ∨ (r.fk = 0 ∧ s.length < r.pos + n) := by
      unfold Cd.Rd.has at hh
      omega
    clear hh
    have hbt : r.fk ≠ 0 → (((r.fk : Nat) : Int) == 0) = false := fun h => by simp; omega
    rcases hh2 with h0 | ⟨h0, h1⟩
    · have hb := hbt h0
      clear hbt
      have hb2 : (((r.fk : Nat) : Int) != 0) = true := by simp; omega
      go_wp2_with fail
      go_region
      all_goals go_wp2_with (first
        | (go_at_call 11; refine (no_any _ b s r 13 s.length (by exact H.out)).mono ?_; rintro en w1 ⟨rfl, hr1, hg1⟩
           have HR := hid hr1
           have HG := hid hg1
           clear hr1 hg1)
        | fail)
      go_ret
      exact ⟨rfl, HR.out, grown_trans (grown_drew (grown_refl _ _)) HG.out⟩
    · clear hbt
      have hwr : IntKind.i64.wrap ((r.pos : Int) + n) = r.pos + n := by rw [IntKind.wrap_i64]; omega
      have hle : (s.length : Int) < (r.pos : Int) + n := by omega
      go_wp2_with fail
      go_region_held3 (fun w' => w'.cell? ⟨b, 0, none⟩ = some (.string ⟨s.toArray⟩) ∧ w'.cell? ⟨b, 1, none⟩ = some (.int .i64 r.pos) ∧ w'.cell? ⟨b, 2, none⟩ = some (.int .i64 r.fk)) (go_keep) (fail)
      go_wp2_with (first
        | (go_at_call 11; refine (no_any _ b s r 13 s.length (by exact H.out)).mono ?_; rintro en w1 ⟨rfl, hr1, hg1⟩
           have HR := hid hr1
           have HG := hid hg1
           clear hr1 hg1)
        | fail)
      go_ret
      exact ⟨rfl, HR.out, grown_trans (grown_drew (grown_refl _ _)) HG.out⟩

set_option maxHeartbeats 2000000 in
theorem text_any (w : World) (b : Nat) (s : List UInt8) (r : Cd.Rd) (n : Nat) (h : RdM w b s r) (hs : s.length ≤ 4000000) (hp : r.pos ≤ 4000003) (hn : n ≤ 65535) :
    Calls Tryd.prog 12 #[ptrV b, .int .i64 n] w fun e w' => e = .returned (.string ⟨(r.text s n).1.toArray⟩) ∧ RdM w' b s (r.text s n).2 ∧ w.grownBy w' (some b) := by
  obtain ⟨c0, c1, c2, c3, hf⟩ := h.cells
  have hsz := size_mk s
  have H := hid h
  clear h
  unfold ptrV
  have hwr : IntKind.i64.wrap ((r.pos : Int) + n) = r.pos + n := by rw [IntKind.wrap_i64]; omega
  by_cases hh : r.has s n
  · obtain ⟨h0, h1⟩ := hh
    have HH : Hid (r.has s n) := ⟨h0, h1⟩
    have hle : ¬ ((s.length : Int) < (r.pos : Int) + n) := by omega
    go_enter Tryd.func12, Tryd.ntmps12
    go_wp2_with fail
    go_region_held3 (fun w' => w'.cell? ⟨b, 0, none⟩ = some (.string ⟨s.toArray⟩) ∧ w'.cell? ⟨b, 1, none⟩ = some (.int .i64 r.pos) ∧ w'.cell? ⟨b, 2, none⟩ = some (.int .i64 r.fk)) (go_keep) (fail)
    go_wp2_with fail
    have HW : Hid (RdM (w.setCell ⟨b, 1, none⟩ (.int .i64 ((r.pos : Int) + n))).drew b s ⟨r.pos + n, r.fk, r.fa⟩ ∧ w.grownBy (w.setCell ⟨b, 1, none⟩ (.int .i64 ((r.pos : Int) + n))).drew (some b)) := by
      refine ⟨?_, grown_drew (grown_set (grown_refl _ _) _)⟩
      have := RdM.pos H.out (r.pos + n)
      rw [Int.natCast_add] at this
      exact this
    generalize (w.setCell ⟨b, 1, none⟩ (.int .i64 ((r.pos : Int) + n))).drew = W at HW
    clear c0 c1 c2 c3 hf
    obtain ⟨c0, c1, c2, c3, hf⟩ := HW.out.1.cells
    dsimp only at c1 c2 c3
    rw [Int.natCast_add] at c1
    have hws : IntKind.i64.wrap ((r.pos : Int) + n - n) = r.pos := by rw [IntKind.wrap_i64]; omega
    have hws2 : IntKind.i64.wrap (r.pos : Int) = r.pos := by rw [IntKind.wrap_i64]; omega
    have hz0 : (0 : Int) ≤ r.pos := by omega
    have hz1 : (r.pos : Int) ≤ (r.pos : Int) + n := by omega
    have hz2 : (r.pos : Int) + n ≤ s.length := by omega
    have kX := fun (W : World) => run_slice_string (P := Tryd.prog) W 9 (⟨s.toArray⟩ : ByteArray) .i64 .i64 (r.pos : Int) ((r.pos : Int) + n) Tryd.underlying9 hz0 hz1 (by rw [hsz]; exact hz2)
    go_region_held3 (fun w' => w'.cell? ⟨b, 0, none⟩ = some (.string ⟨s.toArray⟩) ∧ w'.cell? ⟨b, 1, none⟩ = some (.int .i64 ((r.pos : Int) + n))) (go_keep) (fail)
    go_wp2_with fail
    go_ret
    have hnum : r.text s n = ((s.drop r.pos).take n, ⟨r.pos + n, r.fk, r.fa⟩) := by rw [Cd.Rd.text, if_pos HH.out]
    rw [hnum]
    refine ⟨?_, HW.out.1, grown_drew HW.out.2⟩
    have e2 : ((r.pos : Int) + n).toNat = r.pos + n := by omega
    show Ending.returned (Value.string ((⟨s.toArray⟩ : ByteArray).extract r.pos ((r.pos : Int) + n).toNat)) = _
    rw [e2]
    refine congrArg (fun x => Ending.returned (Value.string x)) ?_
    apply ByteArray.ext
    apply Array.ext'
    simp
  · go_enter Tryd.func12, Tryd.ntmps12
    rw [Cd.Rd.text, if_neg hh]
    have hh2 : r.fk ≠ 0 ∨ (r.fk = 0 ∧ s.length < r.pos + n) := by
      unfold Cd.Rd.has at hh
      omega
    clear hh
    rcases hh2 with h0 | ⟨h0, h1⟩
    · have hb : (((r.fk : Nat) : Int) == 0) = false := by simp; omega
      have hb2 : (((r.fk : Nat) : Int) != 0) = true := by simp; omega
      go_wp2_with fail
      go_region
      all_goals go_wp2_with (first
        | (go_at_call 11; refine (no_any _ b s r 13 s.length (by exact H.out)).mono ?_; rintro en w1 ⟨rfl, hr1, hg1⟩
           have HR := hid hr1
           have HG := hid hg1
           clear hr1 hg1)
        | fail)
      go_ret
      exact ⟨rfl, HR.out, grown_trans (grown_drew (grown_refl _ _)) HG.out⟩
    · have hle : (s.length : Int) < (r.pos : Int) + n := by omega
      go_wp2_with fail
      go_region_held3 (fun w' => w'.cell? ⟨b, 0, none⟩ = some (.string ⟨s.toArray⟩) ∧ w'.cell? ⟨b, 1, none⟩ = some (.int .i64 r.pos) ∧ w'.cell? ⟨b, 2, none⟩ = some (.int .i64 r.fk)) (go_keep) (fail)
      go_wp2_with (first
        | (go_at_call 11; refine (no_any _ b s r 13 s.length (by exact H.out)).mono ?_; rintro en w1 ⟨rfl, hr1, hg1⟩
           have HR := hid hr1
           have HG := hid hg1
           clear hr1 hg1)
        | fail)
      go_ret
      exact ⟨rfl, HR.out, grown_trans (grown_drew (grown_refl _ _)) HG.out⟩

theorem sgn_one (s : List UInt8) (r : Cd.Rd) : Cd.sgn (r.num s 1).1 = ((r.num s 1).1 : Int) := Cd.sgn_small (by have := Cd.num_one_lt s r; omega)
theorem sgn_two (s : List UInt8) (r : Cd.Rd) : Cd.sgn (r.num s 2).1 = ((r.num s 2).1 : Int) := Cd.sgn_small (by have := Cd.num_two_lt s r; omega)
theorem num_pos (s : List UInt8) (n : Nat) (r : Cd.Rd) : (r.num s n).2.pos ≤ max r.pos s.length := by
  unfold Cd.Rd.num Cd.Rd.no
  split
  · rename_i h
    have := h.2
    simp
    omega
  · split <;> simp <;> omega
theorem num_pos1 (s : List UInt8) (r : Cd.Rd) (h : 1 < (r.num s 1).1) : 1 ≤ (r.num s 1).2.pos := by
  unfold Cd.Rd.num at h ⊢
  split
  · simp
  · rename_i hn
    simp [hn] at h

set_option maxHeartbeats 2000000 in
theorem rflag_any (w : World) (b : Nat) (s : List UInt8) (r : Cd.Rd) (h : RdM w b s r) (hs : s.length ≤ 4000000) (hp : r.pos ≤ 4000003) :
    Calls Tryd.prog 15 #[ptrV b] w fun e w' => e = .returned (.bool (r.flag s).1) ∧ RdM w' b s (r.flag s).2 ∧ w.grownBy w' (some b) := by
  have HN := hid (num_any w b s r 1 h hs hp (by omega))
  rw [sgn_one] at HN
  have hlt := Cd.num_one_lt s r
  have hps := num_pos s 1 r
  have hp1 := num_pos1 s r
  have HE : Hid (r.flag s = ((r.num s 1).1 == 1, if 1 < (r.num s 1).1 then (r.num s 1).2.no 14 ((r.num s 1).2.pos - 1) else (r.num s 1).2)) := rfl
  generalize r.num s 1 = x at HN hlt hps hp1 HE
  obtain ⟨v, r1⟩ := x
  dsimp only at HN hlt hps hp1 HE
  unfold ptrV at HN ⊢
  go_enter Tryd.func15, Tryd.ntmps15
  by_cases hv : 1 < v
  · have hq := hp1 hv
    have hwp : IntKind.i64.wrap ((r1.pos : Int) - 1) = ((r1.pos - 1 : Nat) : Int) := by rw [IntKind.wrap_i64]; omega
    go_wp2_with (first
      | (go_at_call 13; refine HN.out.mono ?_; rintro en w1 ⟨rfl, hr1, hg1⟩
         have HR := hid hr1
         have HG := hid hg1
         obtain ⟨c0, c1, c2, c3, hf⟩ := hr1.cells
         clear hr1 hg1)
      | (go_at_call 11; refine (no_any _ b s r1 14 (r1.pos - 1) (by exact HR.out)).mono ?_; rintro en w2 ⟨rfl, hr2, hg2⟩
         have HR2 := hid hr2
         have HG2 := hid hg2
         clear hr2 hg2)
      | fail)
    all_goals
      go_ret
      rw [HE.out, if_pos hv]
      exact ⟨ret_bool (by rw [Bool.eq_iff_iff]; simp; omega), HR2.out, grown_trans HG.out HG2.out⟩
  · go_wp2_with (first
      | (go_at_call 13; refine HN.out.mono ?_; rintro en w1 ⟨rfl, hr1, hg1⟩
         have HR := hid hr1
         have HG := hid hg1
         obtain ⟨c0, c1, c2, c3, hf⟩ := hr1.cells
         clear hr1 hg1)
      | fail)
    all_goals
      go_ret
      rw [HE.out, if_neg hv]
      exact ⟨ret_bool (by rw [Bool.eq_iff_iff]; simp; omega), HR.out, HG.out⟩
end Go.Proofs.YticmoofjjikefaaDoor
