/-
  The document's ins: the bytes of an instruction.
-/
import Derived.Test.YtkfjjkpphpakbaaCb
import Derived.Deep.RegionHeld3
set_option linter.unusedVariables false
set_option linter.unusedSimpArgs false
namespace Go.Proofs.Ytkfjjkpphpakbaa
open Go.RowKit

def insE (x : Cd.Ins) : Ending := .returned (.tuple #[.string ⟨(if Cd.insOk x then Cd.insB x else []).toArray⟩, .bool (Cd.insOk x)])

theorem conv1 (w : World) (A : Obj) (c : Int) (h0 : 0 ≤ c) (h1 : c < 256) : (convert 40 9 (.slice (some ⟨w.heap.size + 1, 0, none⟩) 1 1)).run Try.prog ((w.alloc A).alloc (.cells #[.int .u8 c] 5)) =
    .ok (.string ⟨#[Cd.low c]⟩) ((w.alloc A).alloc (.cells #[.int .u8 c] 5)) := by
  have := run_convert_bytes_back (P := Try.prog) ((w.alloc A).alloc (.cells #[.int .u8 c] 5)) 40 9 5 ⟨w.heap.size + 1, 0, none⟩ 1 [Cd.low c] Try.underlying40 Try.underlying5 Try.underlying9 (fun j hj => by
    have : j = 0 := by simpa using hj
    subst this
    rw [show (⟨w.heap.size + 1, 0, none⟩ : Addr).add 0 = ⟨w.heap.size + 1, 0, none⟩ by simp [Addr.add]]
    simp [low_int]
    omega)
  simpa using this

set_option maxHeartbeats 4000000 in
theorem ins_no (x : Cd.Ins) (w : World) (h : Cd.insOk x = false) :
    Calls Try.prog 13 #[insV x] w fun e w' => e = insE x ∧ Below w.heap.size w w' := by
  have H := hid h
  clear h
  obtain ⟨op, a, b, n⟩ := x
  unfold insV
  go_enter Try.func13, Try.ntmps13
  go_wp2_with (first
    | (go_at_call 25; refine (form_any _ _).mono ?_; rintro e w' ⟨rfl, rfl⟩)
    | (go_at_call 12; refine (fits_any _ _ _).mono ?_; rintro e w' ⟨rfl, rfl⟩)
    | fail)
  all_goals first
    | (refine bodyPost_ret (v := .tuple #[.string ⟨#[]⟩, .bool false]) (by simp [results, Try.results13, go_sem]) rfl ⟨?_, (Below.refl _ _).alloc (Nat.le_refl _) _⟩
       unfold insE
       rw [H.out]
       simp)
    | (exfalso
       have h := H.out
       unfold Cd.insOk at h
       simp_all [Cd.fits]
       try omega)

theorem ins_fin {x : Cd.Ins} {s : ByteArray} (h : Cd.insOk x = true) (hs : s.data.toList = Cd.insB x) : Ending.returned (.tuple #[.string s, .bool true]) = insE x := by
  unfold insE
  rw [h, if_pos rfl, ← hs]

set_option maxHeartbeats 4000000 in
theorem ins_yes (x : Cd.Ins) (w : World) (h : Cd.insOk x = true) :
    Calls Try.prog 13 #[insV x] w fun e w' => e = insE x ∧ Below w.heap.size w w' := by
  have H := hid h
  obtain ⟨op, a, b, n⟩ := x
  unfold Cd.insOk at h
  simp only [Bool.and_eq_true, Bool.or_eq_true, beq_iff_eq] at h
  obtain ⟨⟨⟨⟨⟨h1, h2⟩, h3⟩, h4⟩, h5⟩, h6⟩ := h
  have ho0 : 0 ≤ op := by simp [Cd.fits] at h1; omega
  have ho1 : op < 23 := by simp [Cd.fits] at h1; omega
  clear h1
  have hcv := fun (w : World) (A : Obj) => conv1 w A op ho0 (by omega)
  unfold insV
  rcases (show Cd.form op = 8 ∨ Cd.form op = 1 ∨ Cd.form op = 2 ∨ Cd.form op = 0 by unfold Cd.form; split; · simp
                                                                                    split; · simp
                                                                                    split <;> simp) with hf | hf | hf | hf
  all_goals
    have HF := hid hf
    simp only [hf] at h2 h3 h4
    simp at h2 h3 h4
    try subst h2
    try subst h3
    try subst h4
    go_enter Try.func13, Try.ntmps13
    go_wp2_with (first
      | (go_at_call 25; refine (form_any _ _).mono ?_; rintro e w' ⟨rfl, rfl⟩)
      | (go_at_call 12; refine (fits_any _ _ _).mono ?_; rintro e w' ⟨rfl, rfl⟩)
      | fail)
    skip
  · refine (big_any _ 8 _ (by omega)).mono ?_
    rintro e w1 ⟨rfl, hb⟩
    have HB := hid (below_two hb)
    clear hb
    have hs : (Cd.big n 8).length = 8 := Cd.big_length _ _
    have HI := hid (show Cd.insB ⟨op, 0, 0, n⟩ = Cd.low op :: Cd.big n 8 by simp [Cd.insB, HF.out])
    generalize Cd.big n 8 = y at hs HI
    have kA := fun (W : World) => run_string_add_sum (P := Try.prog) W ⟨#[Cd.low op]⟩ ⟨y.toArray⟩ (by rw [size_mk, size_mk']; simp; omega)
    go_wp2_with fail
    refine bodyPost_ret (v := .tuple #[.string (⟨#[Cd.low op]⟩ ++ ⟨y.toArray⟩), .bool true]) (by simp [results, Try.results13, go_sem]) rfl ⟨ins_fin H.out (by rw [HI.out]; simp), HB.out⟩
  · refine (big_any _ 2 _ (by omega)).mono ?_
    rintro e w1 ⟨rfl, hb⟩
    have HB := hid (below_two hb)
    clear hb
    have hs : (Cd.big a 2).length = 2 := Cd.big_length _ _
    have HI := hid (show Cd.insB ⟨op, a, 0, 0⟩ = Cd.low op :: Cd.big a 2 by simp [Cd.insB, HF.out])
    generalize Cd.big a 2 = y at hs HI
    have kA := fun (W : World) => run_string_add_sum (P := Try.prog) W ⟨#[Cd.low op]⟩ ⟨y.toArray⟩ (by rw [size_mk, size_mk']; simp; omega)
    go_wp2_with fail
    refine bodyPost_ret (v := .tuple #[.string (⟨#[Cd.low op]⟩ ++ ⟨y.toArray⟩), .bool true]) (by simp [results, Try.results13, go_sem]) rfl ⟨ins_fin H.out (by rw [HI.out]; simp), HB.out⟩
  · generalize hW : ((w.alloc _).alloc _ : World) = W
    have c1 : W.cell? ⟨w.heap.size, 1, none⟩ = some (.int .i64 a) := by rw [← hW]; simp
    have c2 : W.cell? ⟨w.heap.size, 2, none⟩ = some (.int .i64 b) := by rw [← hW]; simp
    have hH : w.heap.size < W.heap.size := by rw [← hW]; simp; omega
    have HBW : Hid (Below w.heap.size w W) := by rw [← hW]; exact ((Below.refl _ _).alloc (Nat.le_refl _) _).alloc (by simp) _
    clear hW
    have HA := hid (fun (V : World) => big_any a 2 V (by omega))
    have HC := hid (fun (V : World) => big_any b 2 V (by omega))
    have hs : (Cd.big a 2).length = 2 := Cd.big_length _ _
    have ht : (Cd.big b 2).length = 2 := Cd.big_length _ _
    have HI := hid (show Cd.insB ⟨op, a, b, 0⟩ = Cd.low op :: Cd.big a 2 ++ Cd.big b 2 by simp [Cd.insB, HF.out])
    generalize Cd.big a 2 = y at hs HI HA
    generalize Cd.big b 2 = z at ht HI HC
    have kA := fun (W : World) => run_string_add_sum (P := Try.prog) W ⟨#[Cd.low op]⟩ ⟨y.toArray⟩ (by rw [size_mk, size_mk']; simp; omega)
    have kB := fun (W : World) => run_string_add_sum (P := Try.prog) W (⟨#[Cd.low op]⟩ ++ ⟨y.toArray⟩) ⟨z.toArray⟩ (by simp only [ByteArray.size_append, size_mk, size_mk']; simp; omega)
    go_region_held3 (fun w' => w'.cell? ⟨w.heap.size, 1, none⟩ = some (.int .i64 a) ∧ w'.cell? ⟨w.heap.size, 2, none⟩ = some (.int .i64 b)) (go_keep)
      ((first
        | (go_at_call_of 10 (Value.int .i64 a); refine (HA.out _).mono ?_; rintro en w1 ⟨rfl, hb1⟩
           have HB1 := hid hb1
           clear hb1
           have k1 := past_cells HB1.out hH c1
           have k2 := past_cells HB1.out hH c2
           have hH1 : w.heap.size < w1.heap.size := Nat.lt_of_lt_of_le hH HB1.out.size)
        | (go_at_call_of 10 (Value.int .i64 b); refine (HC.out _).mono ?_; rintro en w2 ⟨rfl, hb2⟩
           have HB2 := hid hb2
           clear hb2
           have l1 := past_cells HB2.out hH1 k1
           have l2 := past_cells HB2.out hH1 k2)))
    all_goals
      go_wp2_with fail
      refine bodyPost_ret (v := .tuple #[.string (⟨#[Cd.low op]⟩ ++ ⟨y.toArray⟩ ++ ⟨z.toArray⟩), .bool true]) (by simp [results, Try.results13, go_sem]) rfl ⟨ins_fin H.out (by rw [HI.out]; simp), ?_⟩
      refine Below.trans ?_ (HB2.out.mono (Nat.le_of_lt hH1))
      repeat (with_reducible (apply Below.drew))
      refine Below.trans ?_ (HB1.out.mono (Nat.le_of_lt hH))
      repeat (with_reducible (first | exact HBW.out | apply Below.drew))
  · refine bodyPost_ret (v := .tuple #[.string ⟨#[Cd.low op]⟩, .bool true]) (by simp [results, Try.results13, go_sem]) rfl ⟨ins_fin H.out (by simp [Cd.insB, HF.out]), ((Below.refl _ _).alloc (Nat.le_refl _) _).alloc (by simp) _⟩

theorem ins_any (x : Cd.Ins) (w : World) :
    Calls Try.prog 13 #[insV x] w fun e w' => e = insE x ∧ Below w.heap.size w w' := by
  cases h : Cd.insOk x with
  | true => exact ins_yes x w h
  | false => exact ins_no x w h
end Go.Proofs.Ytkfjjkpphpakbaa
