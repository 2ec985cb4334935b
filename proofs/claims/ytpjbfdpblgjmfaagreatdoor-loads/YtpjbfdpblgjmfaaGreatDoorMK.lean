/-
  The program's Check, as plain functions, and that they tell what the document's do.
  The program's Check: its small functions; isShape.
  The program's soundHandlers.
-/
import Derived.Test.YtpjbfdpblgjmfaaGreatDoorMEm
set_option linter.unusedVariables false
set_option linter.unusedSimpArgs false
namespace Go.Proofs.YtpjbfdpblgjmfaaGreatDoor
namespace Cd

def isSh : List UInt8 → Nat → Bool
  | [], n => n == 0
  | _ :: _, 0 => false
  | c :: l, n + 1 => if leaf c then isSh l n else if c.toNat = 108 then isSh l (n + 1) else if c.toNat = 112 then isSh l (n + 2) else false
theorem isSh_shp : ∀ (l : List UInt8) (n k : Nat), isSh l n = decide (shp l n k = ((k + l.length : Nat) : Int))
  | [], 0, k => by simp [isSh, shp]
  | [], n + 1, k => by
    have h : ¬ ((-1 : Int) = ((k + ([] : List UInt8).length : Nat) : Int)) := by omega
    simp only [isSh, shp, decide_eq_false h]
    simp
  | c :: l, 0, k => by
    have h : ¬ ((k : Int) = ((k + (c :: l).length : Nat) : Int)) := by
      simp only [List.length_cons]
      omega
    simp only [isSh, shp]
    exact (decide_eq_false h).symm
  | c :: l, n + 1, k => by
    unfold isSh shp
    have e : k + (c :: l).length = (k + 1) + l.length := by simp; omega
    rw [e]
    split
    · exact isSh_shp l n (k + 1)
    · split
      · exact isSh_shp l (n + 1) (k + 1)
      · split
        · exact isSh_shp l (n + 2) (k + 1)
        · have h : ¬ ((-1 : Int) = ((k + 1 + l.length : Nat) : Int)) := by omega
          rw [decide_eq_false h]
theorem isSh_leaf {c : UInt8} {l : List UInt8} {n : Nat} (h : c.toNat = 105 ∨ c.toNat = 98 ∨ c.toNat = 117 ∨ c.toNat = 102 ∨ c.toNat = 118) : isSh (c :: l) (n + 1) = isSh l n := by
  have : leaf c = true := by unfold leaf; simp; omega
  simp [isSh, this]
theorem isSh_l {c : UInt8} {l : List UInt8} {n : Nat} (h : c.toNat = 108) : isSh (c :: l) (n + 1) = isSh l (n + 1) := by
  have : leaf c = false := by unfold leaf; simp; omega
  simp [isSh, this, h]
theorem isSh_p {c : UInt8} {l : List UInt8} {n : Nat} (h : c.toNat = 112) : isSh (c :: l) (n + 1) = isSh l (n + 2) := by
  have : leaf c = false := by unfold leaf; simp; omega
  simp [isSh, this, h]
theorem isSh_no {c : UInt8} {l : List UInt8} {n : Nat} (h : c.toNat ≠ 105 ∧ c.toNat ≠ 98 ∧ c.toNat ≠ 117 ∧ c.toNat ≠ 102 ∧ c.toNat ≠ 118 ∧ c.toNat ≠ 108 ∧ c.toNat ≠ 112) : isSh (c :: l) (n + 1) = false := by
  have : leaf c = false := by unfold leaf; simp; omega
  simp [isSh, this, h]
theorem isSh_whole (l : List UInt8) : isSh l 1 = decide (shp l 1 0 = l.length) := by
  have := isSh_shp l 1 0
  simpa using this

/-- Goes on wherever nothing else is known. -/
def flowP (n : Int) : List Int → Kn → Option Kn
  | [], K => some K
  | a :: l, K => match K a with
    | some m => if m = n then flowP n l (K.put a n) else none
    | none => flowP n l (K.put a n)
theorem put_known {K : Kn} {a v b : Int} (h : K b ≠ none) : K.put a v b ≠ none := by
  unfold Kn.put
  split
  · simp
  · exact h
theorem flow1_eq {i : Nat} {n : Int} : ∀ (ts : List Int) (K : Kn), (∀ b : Int, 0 ≤ b → b ≤ i → K b ≠ none) → (∀ a ∈ ts, 0 ≤ a) → flow1 i n ts K = flowP n ts K
  | [], _, _, _ => rfl
  | a :: l, K, hK, ht => by
    unfold flow1 flowP
    have ih := flow1_eq (i := i) (n := n) l (K.put a n) (fun b h0 h1 => put_known (hK b h0 h1)) (fun x hx => ht x (by simp [hx]))
    rw [ih]
    cases hKa : K a with
    | some m => rfl
    | none =>
      have : ¬ a ≤ i := fun h => hK a (ht a (by simp)) h hKa
      rw [if_neg this]
theorem flowP_known {n : Int} : ∀ (ts : List Int) (K K' : Kn) (b : Int), flowP n ts K = some K' → K b ≠ none → K' b ≠ none
  | [], K, K', b, h, hb => by simp [flowP] at h; rw [← h]; exact hb
  | a :: l, K, K', b, h, hb => by
    unfold flowP at h
    split at h
    · split at h
      · exact flowP_known l _ K' b h (put_known hb)
      · cases h
    · exact flowP_known l _ K' b h (put_known hb)
def stepP (C : Code) (x : Ins) (i : Nat) (K : Kn) : Option Kn := match K i with
  | none => none
  | some n => if (takes C x).1 > n ∨ ((x.op = 17 ∨ x.op = 16) ∧ (takes C x).1 ≠ n) then none
    else if n - (takes C x).1 + (takes C x).2 > 4000 then none
    else flowP (n - (takes C x).1 + (takes C x).2) (goes x i) K
def flowPL (C : Code) : List Ins → Nat → Kn → Option Nat × Kn
  | [], _, K => (none, K)
  | x :: l, i, K => match stepP C x i K with
    | none => (some i, K)
    | some K' => flowPL C l (i + 1) K'
theorem goes_pos {x : Ins} {i : Nat} (h : 0 ≤ x.a) : ∀ a ∈ goes x i, 0 ≤ a := by
  intro a ha
  unfold goes at ha
  rw [List.mem_append] at ha
  rcases ha with ha | ha
  · split at ha
    · simp at ha; omega
    · simp at ha
  · split at ha
    · simp at ha; omega
    · simp at ha
theorem flowL_eq {C : Code} : ∀ (l : List Ins) (i : Nat) (K : Kn), (∀ b : Int, 0 ≤ b → b < i → K b ≠ none) → (∀ x ∈ l, 0 ≤ x.a) → flowL C l i K = flowPL C l i K
  | [], _, _, _, _ => rfl
  | x :: l, i, K, hK, hx => by
    unfold flowL flowPL stepP
    cases hKi : K i with
    | none => rfl
    | some n =>
      have hK2 : ∀ b : Int, 0 ≤ b → b ≤ i → K b ≠ none := fun b h0 h1 => by
        by_cases e : b = i
        · rw [e, hKi]; simp
        · exact hK b h0 (by omega)
      have e1 := flow1_eq (i := i) (n := n - (takes C x).1 + (takes C x).2) (goes x i) K hK2 (goes_pos (hx x (by simp)))
      simp only
      split
      · rfl
      · split
        · rfl
        · rw [e1]
          cases hf : flowP (n - (takes C x).1 + (takes C x).2) (goes x i) K with
          | none => rfl
          | some K' =>
            exact flowL_eq l (i + 1) K' (fun b h0 h1 => flowP_known _ K K' b hf (hK2 b h0 (by omega))) (fun y hy => hx y (by simp [hy]))
theorem flowL_start {C : Code} {l : List Ins} (h : ∀ x ∈ l, 0 ≤ x.a) : flowL C l 0 (Kn.put (fun _ => none) 0 0) = flowPL C l 0 (Kn.put (fun _ => none) 0 0) :=
  flowL_eq l 0 _ (fun b h0 h1 => by omega) h
/-- What is learnt of one place. -/
theorem flowP_vals {n : Int} : ∀ (ts : List Int) (K K' : Kn), flowP n ts K = some K' → ∀ a v, K' a = some v → v = n ∨ K a = some v
  | [], K, K', h, a, v, hv => by simp [flowP] at h; subst h; exact .inr hv
  | t :: l, K, K', h, a, v, hv => by
    have key : ∀ K1 : Kn, K1 = K.put t n → flowP n l K1 = some K' → v = n ∨ K a = some v := fun K1 e1 h1 => by
      rcases flowP_vals l K1 K' h1 a v hv with h2 | h2
      · exact .inl h2
      · rw [e1] at h2
        unfold Kn.put at h2
        split at h2
        · cases h2; exact .inl rfl
        · exact .inr h2
    unfold flowP at h
    split at h
    · split at h
      · exact key _ rfl h
      · cases h
    · exact key _ rfl h
theorem puts_eq {C : Code} {x : Ins} (h : fits x.op 22 = true) : (takes C x).2 = if x.op = 4 ∨ x.op = 14 ∨ x.op = 20 ∨ x.op = 19 ∨ x.op = 17 ∨ x.op = 16 ∨ x.op = 18 then 0 else 1 := by
  unfold fits at h
  simp at h
  unfold takes
  by_cases h1 : x.op = 0 ∨ x.op = 1 ∨ x.op = 2 ∨ x.op = 3
  · rw [if_pos h1, if_neg (by omega)]
  · rw [if_neg h1]
    by_cases h2 : x.op = 4 ∨ x.op = 14 ∨ x.op = 20 ∨ x.op = 19 ∨ x.op = 17
    · rw [if_pos h2, if_pos (by omega)]
    · rw [if_neg h2]
      by_cases h3 : x.op = 5 ∨ x.op = 8 ∨ x.op = 12 ∨ x.op = 15
      · rw [if_pos h3, if_neg (by omega)]
      · rw [if_neg h3]
        by_cases h4 : x.op = 6 ∨ x.op = 7 ∨ x.op = 9 ∨ x.op = 10 ∨ x.op = 11 ∨ x.op = 22
        · rw [if_pos h4, if_neg (by omega)]
        · rw [if_neg h4]
          by_cases h5 : x.op = 16
          · rw [if_pos h5, if_pos (by omega)]
          · rw [if_neg h5]
            by_cases h6 : x.op = 13
            · rw [if_pos h6, if_neg (by omega)]
            · rw [if_neg h6]
              by_cases h7 : x.op = 21
              · rw [if_pos h7, if_neg (by omega)]
              · rw [if_neg h7, if_pos (by omega)]
end Cd
end Go.Proofs.YtpjbfdpblgjmfaaGreatDoor

namespace Go.Proofs.YtpjbfdpblgjmfaaGreatDoor
open Go.RowKit Go.Maps

theorem below_c (n m : Int) (w : World) :
    Calls Tryz.prog 61 #[.int .i64 n, .int .i64 m] w fun e w' => e = .returned (.bool (decide (0 ≤ n ∧ n < m))) ∧ w' = w := by
  go_enter Tryz.func61, Tryz.ntmps61
  go_wp2
  all_goals
    go_ret
    refine ⟨ret_bool ?_, rfl⟩
    rw [Bool.eq_iff_iff]
    simp
    try omega
theorem kind_c (b : Bool) (k : Int) (w : World) :
    Calls Tryz.prog 94 #[.bool b, .int .i64 k] w fun e w' => e = .returned (.int .i64 (if b then 0 else k)) ∧ w' = w := by
  go_enter Tryz.func94, Tryz.ntmps94
  cases b
  all_goals
    go_wp2
    go_ret
    exact ⟨rfl, rfl⟩
theorem isOpc_any (op : Int) (w : World) :
    Calls Tryz.prog 95 #[.int .i64 op] w fun e w' => e = .returned (.bool (Cd.fits op 22)) ∧ w' = w := by
  go_enter Tryz.func95, Tryz.ntmps95
  go_wp2
  all_goals
    go_ret
    refine ⟨ret_bool ?_, rfl⟩
    unfold Cd.fits
    rw [Bool.eq_iff_iff]
    simp
    try omega
theorem ends_c (op : Int) (w : World) :
    Calls Tryz.prog 106 #[.int .i64 op] w fun e w' => e = .returned (.bool (decide (op = 17 ∨ op = 16))) ∧ w' = w := by
  go_enter Tryz.func106, Tryz.ntmps106
  go_wp2
  all_goals
    go_ret
    refine ⟨ret_bool ?_, rfl⟩
    rw [Bool.eq_iff_iff]
    simp_all
theorem jumps_c (op : Int) (w : World) :
    Calls Tryz.prog 108 #[.int .i64 op] w fun e w' => e = .returned (.bool (decide (op = 18 ∨ op = 19))) ∧ w' = w := by
  go_enter Tryz.func108, Tryz.ntmps108
  go_wp2
  all_goals
    go_ret
    refine ⟨ret_bool ?_, rfl⟩
    rw [Bool.eq_iff_iff]
    simp_all
theorem puts_c (op : Int) (w : World) :
    Calls Tryz.prog 107 #[.int .i64 op] w fun e w' => e = .returned (.int .i64 (if op = 4 ∨ op = 14 ∨ op = 20 ∨ op = 19 ∨ op = 17 ∨ op = 16 ∨ op = 18 then 0 else 1)) ∧ w' = w := by
  go_enter Tryz.func107, Tryz.ntmps107
  go_wp2
  all_goals
    go_ret
    refine ⟨ret_int ?_, rfl⟩
    simp_all

set_option maxHeartbeats 4000000 in
theorem isShape_c (s : List UInt8) (w : World) (hs : s.length ≤ 65535) :
    Calls Tryz.prog 23 #[.string ⟨s.toArray⟩] w fun e w' => e = .returned (.bool (Cd.isSh s 1)) ∧ w' = w := by
  have hsz := size_mk s
  go_enter Tryz.func23, Tryz.ntmps23
  go_wp2
  go_loop [3, 7] (fun l t => ∃ (k n : Nat), t = .int .i64 k ∧ l = .int .i64 n ∧ k ≤ s.length ∧ n ≤ k + 1 ∧ Hid (Cd.isSh s 1 = Cd.isSh (s.drop k) n)) (fun _ t => s.length - (intOf t).toNat)
  case atStart => exact ⟨0, 1, rfl, rfl, Nat.zero_le _, by omega, rfl⟩
  case round =>
    obtain ⟨k, n, rfl, rfl, hk, hn, H⟩ := hrel
    by_cases hlt : k < s.length
    · have hd : s.drop k = s[k] :: s.drop (k + 1) := List.drop_eq_getElem_cons hlt
      obtain ⟨c, hc0⟩ : ∃ c, s[k] = c := ⟨_, rfl⟩
      have hg : ∀ hx, (⟨s.toArray⟩ : ByteArray)[k]'hx = c := fun _ => hc0
      rw [hc0] at hd
      have HD := hid hd
      clear hd hc0
      cases n with
      | zero =>
        go_wp2
        go_ret
        exact ⟨by rw [H.out, HD.out]; rfl, rfl⟩
      | succ n =>
        rcases (show (c.toNat = 105 ∨ c.toNat = 98 ∨ c.toNat = 117 ∨ c.toNat = 102 ∨ c.toNat = 118) ∨ c.toNat = 108 ∨ c.toNat = 112 ∨
            (c.toNat ≠ 105 ∧ c.toNat ≠ 98 ∧ c.toNat ≠ 117 ∧ c.toNat ≠ 102 ∧ c.toNat ≠ 118 ∧ c.toNat ≠ 108 ∧ c.toNat ≠ 112) by omega) with hc | hc | hc | hc
        · have HS := hid (Cd.isSh_leaf (l := s.drop (k + 1)) (n := n) hc)
          rcases hc with hc | hc | hc | hc | hc
          all_goals
            go_wp2
            go_round
            case rel => exact ⟨k + 1, n, by go_num, by go_num, by omega, by omega, hid (by rw [H.out, HD.out, HS.out])⟩
            case measure => simp [intOf]; omega
        · have HS := hid (Cd.isSh_l (l := s.drop (k + 1)) (n := n) hc)
          go_wp2
          go_round
          case rel => exact ⟨k + 1, n + 1, by go_num, by go_num, by omega, by omega, hid (by rw [H.out, HD.out, HS.out])⟩
          case measure => simp [intOf]; omega
        · have HS := hid (Cd.isSh_p (l := s.drop (k + 1)) (n := n) hc)
          go_wp2
          go_round
          case rel => exact ⟨k + 1, n + 2, by go_num, by go_num, by omega, by omega, hid (by rw [H.out, HD.out, HS.out])⟩
          case measure => simp [intOf]; omega
        · have HS := hid (Cd.isSh_no (l := s.drop (k + 1)) (n := n) hc)
          obtain ⟨h1, h2, h3, h4, h5, h6, h7⟩ := hc
          have b1 : (((c.toNat : Nat) : Int) == 105) = false := by simp; omega
          have b2 : (((c.toNat : Nat) : Int) == 98) = false := by simp; omega
          have b3 : (((c.toNat : Nat) : Int) == 117) = false := by simp; omega
          have b4 : (((c.toNat : Nat) : Int) == 102) = false := by simp; omega
          have b5 : (((c.toNat : Nat) : Int) == 118) = false := by simp; omega
          have b6 : (((c.toNat : Nat) : Int) == 108) = false := by simp; omega
          have b7 : (((c.toNat : Nat) : Int) == 112) = false := by simp; omega
          clear h1 h2 h3 h4 h5 h6 h7
          go_wp2
          go_ret
          exact ⟨by rw [H.out, HD.out, HS.out]; rfl, rfl⟩
    · go_wp2
      all_goals
        go_ret
        refine ⟨ret_bool ?_, rfl⟩
        rw [H.out, List.drop_eq_nil_of_le (by omega)]
        unfold Cd.isSh
        rw [Bool.eq_iff_iff]
        simp
        try omega
end Go.Proofs.YtpjbfdpblgjmfaaGreatDoor

namespace Go.Proofs.YtpjbfdpblgjmfaaGreatDoor
open Go.RowKit Go.Maps

namespace Cd
theorem hb_take {n : Nat} {l : List Int} {j : Nat} (h : hb n (l.take j) = true) : hb n l = true := by
  unfold hb at h ⊢
  simp only [Bool.or_eq_true, Bool.not_eq_true', decide_eq_false_iff_not, List.any_eq_true] at h ⊢
  rcases h with ⟨x, h1, h2⟩ | h
  · exact .inl ⟨x, List.mem_of_mem_take h1, h2⟩
  · exact .inr (fun h2 => h (h2.sublist (List.take_sublist _ _)))
theorem any_han {C : Code} {h : Han} (hm : h ∈ C.hans) (hh : hb C.ops.length h.ops = true) : C.hans.any (hanBad C) = true := by
  rw [List.any_eq_true]
  exact ⟨h, hm, hh⟩
end Cd

theorem row_alloc {w : World} {b n : Nat} {t : TypeId} {f : Nat → Value} (h : w.rowIs b t n f) (o : Obj) : (w.alloc o).rowIs b t n f := by
  obtain ⟨c, h1, h2⟩ := h
  exact ⟨c, (Below.heap_alloc w o b (Array.getElem?_eq_some_iff.1 h1).1).trans h1, h2⟩
set_option maxRecDepth 100000 in
set_option maxHeartbeats 8000000 in
theorem sound_c (C : Cd.Code) (vb vc vd : Value) (w : World) (hM : CodeM w vb vc vd C) (hl1 : C.hans.length ≤ 65535) (hl3 : C.ops.length ≤ 255) (ho : ∀ h ∈ C.hans, h.ops.length ≤ 255) (hp : ∀ h ∈ C.hans, ∀ x ∈ h.ops, 0 ≤ x) :
    Calls Tryz.prog 24 #[codeV2 C vb vc vd] w fun e w' => e = .returned (.bool (!C.hans.any (Cd.hanBad C))) ∧ Below w.heap.size w w' := by
  unfold codeV2
  go_enter Tryz.func24, Tryz.ntmps24
  obtain ⟨⟨ao, co, rfl, hco, hx1⟩, ⟨ah, ch, rfl, hch, hx2⟩, ⟨af, cf, rfl, hcf, hx3⟩⟩ := hM
  have HX2 := hid hx2
  clear hx1 hx2 hx3
  have HO := hid ho
  have HPo := hid hp
  clear ho hp
  have hmk := run_make_row' (P := Tryz.prog) 87 3 (.int .i64 0) 8 Tryz.underlying87 Tryz.infoInt rfl .i64 .i64 C.ops.length (by omega) (by omega)
  go_wp2
  obtain ⟨W1, hW1⟩ : ∃ W1, w.alloc (.cells #[.string ⟨C.shape.toArray⟩, .slice ao C.ops.length co, .slice ah C.hans.length ch, .slice af C.funs.length cf] 38) = W1 := ⟨_, rfl⟩
  have hs1 : W1.heap.size = w.heap.size + 1 := by rw [← hW1]; simp
  have hb1 : Below w.heap.size w W1 := by rw [← hW1]; exact (Below.refl _ _).alloc (Nat.le_refl _) _
  have c1 : W1.cell? ⟨w.heap.size, 1, none⟩ = some (.slice ao C.ops.length co) := by rw [← hW1]; simp
  have HR0 : Hid ((W1.alloc (.cells (madeCells #[.int .i64 0] C.ops.length) 3)).rowIs W1.heap.size 3 C.ops.length (fun o => .int .i64 ((fun _ => 0 : Nat → Nat) o))) := (World.rowIs_made W1 _ C.ops.length 3).congr (fun j hj => rfl)
  have HB0 : Hid (Below W1.heap.size W1 (W1.alloc (.cells (madeCells #[.int .i64 0] C.ops.length) 3))) := (Below.refl _ _).alloc (Nat.le_refl _) _
  rw [hs1] at HR0
  rw [hW1]
  generalize W1.alloc (.cells (madeCells #[.int .i64 0] C.ops.length) 3) = W2 at HR0 HB0
  clear hW1
  go_loopw [15] (fun t wr => ∃ i : Nat, t = .int .i64 i ∧ i ≤ C.hans.length ∧ Hid (Below W1.heap.size W1 wr) ∧ (∃ L : Nat → Nat, (∀ o, L o ≤ i) ∧ Hid (wr.rowIs (w.heap.size + 1) 3 C.ops.length (fun o => .int .i64 (L o)))) ∧ Hid ((C.hans.take i).any (Cd.hanBad C) = false)) (fun t _ => C.hans.length - (intOf t).toNat)
  case atStart => exact ⟨0, rfl, Nat.zero_le _, HB0, ⟨fun _ => 0, fun _ => Nat.le_refl _, HR0⟩, by simp [Hid]⟩
  case round =>
    obtain ⟨i, rfl, hi, HB, ⟨L, hL, HR⟩, HA⟩ := hrel
    by_cases hlt : i < C.hans.length
    · obtain ⟨h, hh, htk, hmem, hne⟩ := at_some hlt
      obtain ⟨g, k, rfl, hcell⟩ := HX2.out hne
      obtain ⟨q0, u, q1, ai, ci, rfl, hci, hci2⟩ := hcell i h hh
      have e0 := kc (below_trans hb1 HB.out) q0
      have e1 := kc (below_trans hb1 HB.out) q1
      have HI := hid hci2
      have hol := HO.out h hmem
      have HPh := hid (HPo.out h hmem)
      have hgl : (i : Int) < C.hans.length := by omega
      have hgb : g < wr.heap.size := block_lt_of_cell e0
      have HAn : Hid ((C.hans.take (i + 1)).any (Cd.hanBad C) = Cd.hb C.ops.length h.ops) := by rw [Hid, Cd.any_take htk, Cd.hb_bad, HA.out, Bool.false_or]
      have HBd := hid (Cd.any_han (C := C) hmem)
      have HBA : Hid (Below W1.heap.size W1 (wr.alloc (.cells #[.bool h.shallow, .slice ai h.ops.length ci] 121))) := HB.out.alloc HB.out.size _
      have HRA : Hid ((wr.alloc (.cells #[.bool h.shallow, .slice ai h.ops.length ci] 121)).rowIs (w.heap.size + 1) 3 C.ops.length (fun o => .int .i64 (L o))) := row_alloc HR.out _
      clear hcell q0 q1 hci2 htk hne
      go_wp2
      generalize wr.alloc (.cells #[.bool h.shallow, .slice ai h.ops.length ci] 121) = wa at HBA HRA
      go_loopw [23] (fun t wr => ∃ j : Nat, t = .int .i64 j ∧ j ≤ h.ops.length ∧ Hid (Below W1.heap.size W1 wr) ∧ (∃ L : Nat → Nat, (∀ o, L o ≤ i + 1) ∧ Hid (∀ o : Nat, L o = i + 1 ↔ (o : Int) ∈ h.ops.take j) ∧ Hid (wr.rowIs (w.heap.size + 1) 3 C.ops.length (fun o => .int .i64 (L o)))) ∧ Hid (Cd.hb C.ops.length (h.ops.take j) = false)) (fun t _ => h.ops.length - (intOf t).toNat)
      case atStart => exact ⟨0, rfl, Nat.zero_le _, HBA, ⟨L, fun o => by have := hL o; omega, fun o => by have := hL o; simp; omega, HRA⟩, Cd.hb_nil _⟩
      case round =>
        obtain ⟨j, rfl, hj, HB2, ⟨L2, hL2, HI2, HR2⟩, HA2⟩ := hrel
        have d1 := kc HB2.out c1
        by_cases hlt2 : j < h.ops.length
        · obtain ⟨x, hx, htk2, hmem2, hne2⟩ := at_some hlt2
          obtain ⟨gi, ki, rfl, hcell2⟩ := HI.out hne2
          have y0 := kc (below_trans hb1 HB2.out) (hcell2 j x hx)
          have hgl2 : (j : Int) < h.ops.length := by omega
          have HSn : Hid (Cd.hb C.ops.length (h.ops.take (j + 1)) = (decide ((C.ops.length : Int) ≤ x) || (h.ops.take j).any (fun y => y == x))) := by rw [Hid, htk2, Cd.hb_snoc, HA2.out, Bool.false_or]
          have HTk := hid htk2
          obtain ⟨o, rfl⟩ := Int.eq_ofNat_of_zero_le (HPh.out x hmem2)
          clear hcell2 htk2 hne2
          by_cases hbel : o < C.ops.length
          · have hbd : decide ((0 : Int) ≤ (o : Int) ∧ (o : Int) < (C.ops.length : Int)) = true := by simp; omega
            have hol2 : (o : Int) < C.ops.length := by omega
            have z0 := HR2.out.cell hbel
            have zf := HR2.out.frozen o
            have hw1 : IntKind.i64.wrap ((i : Int) + 1) = i + 1 := by rw [IntKind.wrap_i64]; omega
            by_cases hm2 : L2 o = i + 1
            · have hq : (((L2 o : Nat) : Int) == (i : Int) + 1) = true := by simp; omega
              go_wp2_with (first
                | (go_at_call 61; refine (below_c _ _ _).mono ?_; rintro en w9 ⟨rfl, hw9⟩; obtain rfl := hw9.symm; rw [hbd])
                | go_in)
              go_ret
              refine ⟨ret_bool ?_, below_trans hb1 HB2.out⟩
              rw [HBd.out (Cd.hb_take (j := j + 1) (by rw [HSn.out, List.any_eq_true.2 ⟨(o : Int), (HI2.out o).1 hm2, by simp⟩]; simp))]
              rfl
            · have hq : (((L2 o : Nat) : Int) == (i : Int) + 1) = false := by simp; omega
              have HRn : Hid ((wr.setCell ⟨w.heap.size + 1, o, none⟩ (.int .i64 ((i : Int) + 1))).rowIs (w.heap.size + 1) 3 C.ops.length (fun q => .int .i64 ((if q = o then i + 1 else L2 q : Nat)))) := by
                refine (HR2.out.set o _).congr ?_
                intro q hq
                by_cases e : q = o
                · rw [if_pos e, if_pos e]; simp
                · rw [if_neg e, if_neg e]
              have HBn : Hid (Below W1.heap.size W1 (wr.setCell ⟨w.heap.size + 1, o, none⟩ (.int .i64 ((i : Int) + 1)))) := HB2.out.setCell (by rw [hs1]; exact Nat.le_refl _) _
              go_wp2_with (first
                | (go_at_call 61; refine (below_c _ _ _).mono ?_; rintro en w9 ⟨rfl, hw9⟩; obtain rfl := hw9.symm; rw [hbd])
                | go_in)
              go_roundw
              case rel =>
                refine ⟨j + 1, by simp, by omega, HBn, ⟨fun q => if q = o then i + 1 else L2 q, fun q => ?_, fun q => ?_, HRn⟩, ?_⟩
                · have := hL2 q
                  dsimp only
                  split <;> omega
                · rw [HTk.out]
                  have h2 := HI2.out q
                  dsimp only
                  by_cases e : q = o
                  · rw [if_pos e]; simp [e]
                  · rw [if_neg e, h2]; simp; intro h; omega
                · rw [Hid, HSn.out]
                  have h1 : decide ((C.ops.length : Int) ≤ (o : Int)) = false := by simp; omega
                  rw [h1, Bool.false_or]
                  rw [List.any_eq_false]
                  intro y hy e
                  have e2 : y = (o : Int) := by simpa using e
                  rw [e2] at hy
                  exact hm2 ((HI2.out o).2 hy)
              case measure => simp [intOf]; omega
          · have hbd : decide ((0 : Int) ≤ (o : Int) ∧ (o : Int) < (C.ops.length : Int)) = false := by simp; omega
            go_wp2_with (first
              | (go_at_call 61; refine (below_c _ _ _).mono ?_; rintro en w9 ⟨rfl, hw9⟩; obtain rfl := hw9.symm; rw [hbd])
              | go_in)
            go_ret
            refine ⟨ret_bool ?_, below_trans hb1 HB2.out⟩
            rw [HBd.out (Cd.hb_take (j := j + 1) (by rw [HSn.out]; simp; left; omega))]
            rfl
        · have ej : j = h.ops.length := by omega
          subst ej
          have hgl2 : ¬ (h.ops.length : Int) < h.ops.length := by omega
          go_wp2
          go_roundw
          case rel => exact ⟨i + 1, by simp, by omega, HB2, ⟨L2, hL2, HR2⟩, by rw [Hid, HAn.out]; have := HA2.out; rw [List.take_length] at this; exact this⟩
          case measure => simp [intOf]; omega
    · have ei : i = C.hans.length := by omega
      subst ei
      have hgl : ¬ (C.hans.length : Int) < C.hans.length := by omega
      go_wp2
      go_ret
      refine ⟨ret_bool ?_, below_trans hb1 HB.out⟩
      have := HA.out
      rw [List.take_length] at this
      rw [this]
      rfl
end Go.Proofs.YtpjbfdpblgjmfaaGreatDoor
