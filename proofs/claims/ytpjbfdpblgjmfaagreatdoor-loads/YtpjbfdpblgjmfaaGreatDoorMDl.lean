/-
  Decode's first three bytes.
  Decode's first three bytes, as a loop.
  Decode's state: how it begins; what it comes to.
-/
import Derived.Test.YtpjbfdpblgjmfaaGreatDoorMDj
import Derived.Test.YtpjbfdpblgjmfaaGreatDoorMDk
set_option linter.unusedVariables false
set_option linter.unusedSimpArgs false
namespace Go.Proofs.YtpjbfdpblgjmfaaGreatDoor
open Go.RowKit

theorem Ch.undrew {O : Nat → Prop} {w w' : World} {n : Nat} (h : Ch O (w.drewN n) w') : Ch O w w' := ⟨h.size, h.same, h.eo⟩
set_option maxRecDepth 100000 in
set_option maxHeartbeats 8000000 in
theorem head_0a {wr : World} {s : List UInt8} {b : Nat} {r : Cd.Rd} (F G : Nat → Value) (Q0 : Exit → Act → World → Prop) (h0 : F 0 = .string ⟨s.toArray⟩) (h4 : F 4 = .pointer (some ⟨b, 0, none⟩)) (h5 : F 5 = .string ⟨#[69, 70, 49]⟩) (hr : RdM wr b s r) (hi : 0 < s.length) (hc : (s[0]'hi).toNat = 69) :
    Code.wp Tryz.prog ((Tryz.f15.body.map (fun c => (loopsOf c).getD 0 .skip)).getD .skip) (Exit.then (fun a' w' => FrK [0, 2, 3, 4, 5] F a' ∧ a'.tmps[6]? = some (.int .i64 1) ∧ RdM w' b s r ∧ Ch (fun k => k = b) wr w') Q0) ⟨#[.string ⟨s.toArray⟩, G 1, F 2, F 3, .pointer (some ⟨b, 0, none⟩), .string ⟨#[69, 70, 49]⟩, .int .i64 0, G 7, G 8, G 9, G 10, G 11, G 12, G 13, G 14, G 15, G 16, G 17, G 18, G 19, G 20, G 21, G 22, G 23, G 24, G 25, G 26, G 27, G 28, G 29, G 30, G 31, G 32, G 33, G 34, G 35, G 36, G 37, G 38, G 39, G 40, G 41, G 42, G 43, G 44, G 45, G 46, G 47, G 48, G 49, G 50, G 51, G 52, G 53, G 54, G 55, G 56, G 57, G 58, G 59, G 60, G 61, G 62, G 63, G 64, G 65, G 66, G 67, G 68, G 69, G 70, G 71, G 72, G 73, G 74, G 75, G 76, G 77, G 78, G 79, G 80, G 81, G 82, G 83, G 84, G 85, G 86, G 87, G 88, G 89, G 90, G 91, G 92, G 93, G 94, G 95, G 96, G 97, G 98, G 99, G 100, G 101, G 102, G 103, G 104, G 105, G 106, G 107, G 108, G 109, G 110, G 111, G 112, G 113, G 114, G 115, G 116, G 117, G 118, G 119, G 120, G 121, G 122, G 123, G 124, G 125, G 126, G 127, G 128, G 129, G 130, G 131, G 132, G 133, G 134, G 135, G 136, G 137, G 138, G 139, G 140, G 141, G 142, G 143, G 144, G 145, G 146, G 147, G 148, G 149, G 150, G 151, G 152, G 153, G 154, G 155, G 156, G 157, G 158, G 159, G 160, G 161, G 162, G 163, G 164, G 165, G 166, G 167, G 168, G 169, G 170, G 171, G 172, G 173, G 174, G 175, G 176, G 177, G 178, G 179, G 180, G 181, G 182, G 183, G 184, G 185, G 186, G 187, G 188, G 189, G 190, G 191, G 192, G 193, G 194, G 195], []⟩ wr := by
  have hmx : Tryz.prog.follows .mixedOrders = true := by kernel_rfl
  have hsz := size_mk s
  have hge : ¬ ((s.length : Int) ≤ 0) := by omega
  have hlt : (0 : Int) < (s.length : Int) := by omega
  have hl0 : ¬ s.length = 0 := by omega
  have hnil : ¬ s = [] := fun e => by rw [e] at hi; simp at hi
  have hx : ∀ (h : 0 < (⟨s.toArray⟩ : ByteArray).size), ((⟨s.toArray⟩ : ByteArray)[0]'h).toNat = (s[0]'hi).toNat := fun h => rfl
  rw [hc] at hx
  conv => arg 2; whnf
  go_upto_region 10 with (fail)
  go_quiet (fail)
  go_wp2
  first
    | exact ⟨⟨rfl, rfl, (by
      intro x9 hx9
      simp only [List.mem_cons, List.not_mem_nil, or_false] at hx9
      rcases hx9 with rfl | rfl | rfl | rfl | rfl
      all_goals first
        | rfl
        | exact congrArg some h0.symm
        | exact congrArg some h4.symm
        | exact congrArg some h5.symm)⟩, hr, ⟨Nat.le_refl _, fun _ _ _ => rfl, rfl, rfl⟩⟩
    | exact ⟨⟨rfl, rfl, (by
      intro x9 hx9
      simp only [List.mem_cons, List.not_mem_nil, or_false] at hx9
      rcases hx9 with rfl | rfl | rfl | rfl | rfl
      all_goals first
        | rfl
        | exact congrArg some h0.symm
        | exact congrArg some h4.symm
        | exact congrArg some h5.symm)⟩, rfl, hr, ⟨Nat.le_refl _, fun _ _ _ => rfl, rfl, rfl⟩⟩
    | exact ⟨⟨rfl, rfl, (by
      intro x9 hx9
      simp only [List.mem_cons, List.not_mem_nil, or_false] at hx9
      rcases hx9 with rfl | rfl | rfl | rfl | rfl
      all_goals first
        | rfl
        | exact congrArg some h0.symm
        | exact congrArg some h4.symm
        | exact congrArg some h5.symm)⟩, ⟨Nat.le_refl _, fun _ _ _ => rfl, rfl, rfl⟩⟩
    | exact ⟨⟨rfl, rfl, (by
      intro x9 hx9
      simp only [List.mem_cons, List.not_mem_nil, or_false] at hx9
      rcases hx9 with rfl | rfl | rfl | rfl | rfl
      all_goals first
        | rfl
        | exact congrArg some h0.symm
        | exact congrArg some h4.symm
        | exact congrArg some h5.symm)⟩, rfl, ⟨Nat.le_refl _, fun _ _ _ => rfl, rfl, rfl⟩⟩
set_option maxRecDepth 100000 in
set_option maxHeartbeats 8000000 in
theorem head_0b {wr : World} {s : List UInt8} {b : Nat} {r : Cd.Rd} (F G : Nat → Value) (Q0 : Exit → Act → World → Prop) (h0 : F 0 = .string ⟨s.toArray⟩) (h4 : F 4 = .pointer (some ⟨b, 0, none⟩)) (h5 : F 5 = .string ⟨#[69, 70, 49]⟩) (hr : RdM wr b s r) (hi : 0 < s.length) (hc : ¬ (s[0]'hi).toNat = 69) :
    Code.wp Tryz.prog ((Tryz.f15.body.map (fun c => (loopsOf c).getD 0 .skip)).getD .skip) (Exit.then (fun a' w' => FrK [0, 2, 3, 4, 5] F a' ∧ a'.tmps[6]? = some (.int .i64 1) ∧ RdM w' b s (r.no 12 0) ∧ Ch (fun k => k = b) wr w') Q0) ⟨#[.string ⟨s.toArray⟩, G 1, F 2, F 3, .pointer (some ⟨b, 0, none⟩), .string ⟨#[69, 70, 49]⟩, .int .i64 0, G 7, G 8, G 9, G 10, G 11, G 12, G 13, G 14, G 15, G 16, G 17, G 18, G 19, G 20, G 21, G 22, G 23, G 24, G 25, G 26, G 27, G 28, G 29, G 30, G 31, G 32, G 33, G 34, G 35, G 36, G 37, G 38, G 39, G 40, G 41, G 42, G 43, G 44, G 45, G 46, G 47, G 48, G 49, G 50, G 51, G 52, G 53, G 54, G 55, G 56, G 57, G 58, G 59, G 60, G 61, G 62, G 63, G 64, G 65, G 66, G 67, G 68, G 69, G 70, G 71, G 72, G 73, G 74, G 75, G 76, G 77, G 78, G 79, G 80, G 81, G 82, G 83, G 84, G 85, G 86, G 87, G 88, G 89, G 90, G 91, G 92, G 93, G 94, G 95, G 96, G 97, G 98, G 99, G 100, G 101, G 102, G 103, G 104, G 105, G 106, G 107, G 108, G 109, G 110, G 111, G 112, G 113, G 114, G 115, G 116, G 117, G 118, G 119, G 120, G 121, G 122, G 123, G 124, G 125, G 126, G 127, G 128, G 129, G 130, G 131, G 132, G 133, G 134, G 135, G 136, G 137, G 138, G 139, G 140, G 141, G 142, G 143, G 144, G 145, G 146, G 147, G 148, G 149, G 150, G 151, G 152, G 153, G 154, G 155, G 156, G 157, G 158, G 159, G 160, G 161, G 162, G 163, G 164, G 165, G 166, G 167, G 168, G 169, G 170, G 171, G 172, G 173, G 174, G 175, G 176, G 177, G 178, G 179, G 180, G 181, G 182, G 183, G 184, G 185, G 186, G 187, G 188, G 189, G 190, G 191, G 192, G 193, G 194, G 195], []⟩ wr := by
  have hmx : Tryz.prog.follows .mixedOrders = true := by kernel_rfl
  have hsz := size_mk s
  have hge : ¬ ((s.length : Int) ≤ 0) := by omega
  have hlt : (0 : Int) < (s.length : Int) := by omega
  have hl0 : ¬ s.length = 0 := by omega
  have hnil : ¬ s = [] := fun e => by rw [e] at hi; simp at hi
  have hx : ∀ (h : 0 < (⟨s.toArray⟩ : ByteArray).size), ((⟨s.toArray⟩ : ByteArray)[0]'h).toNat = (s[0]'hi).toNat := fun h => rfl
  have hcI : ¬ (((s[0]'hi).toNat : Int) = 69) := by omega
  have hcB : (((s[0]'hi).toNat : Int) != (((⟨#[69, 70, 49]⟩ : ByteArray)[0]'(by decide)).toNat : Int)) = true := by
    show (((s[0]'hi).toNat : Int) != (69 : Int)) = true
    simpa using hcI
  have hno := fun w (h : RdM w b s r) => no_any w b s r 12 0 h
  unfold ptrV at hno
  conv => arg 2; whnf
  go_upto_region 10 with (fail)
  go_quiet (fail)
  go_wp2_with (go_at_call 31; refine (hno _ (show RdM (wr.drewN nq) b s r from hr)).mono ?_; clear hno; rintro e w1 ⟨rfl, hr1, hg1⟩; dsimp only)
  first
    | exact ⟨⟨rfl, rfl, (by
      intro x9 hx9
      simp only [List.mem_cons, List.not_mem_nil, or_false] at hx9
      rcases hx9 with rfl | rfl | rfl | rfl | rfl
      all_goals first
        | rfl
        | exact congrArg some h0.symm
        | exact congrArg some h4.symm
        | exact congrArg some h5.symm)⟩, hr1, (grown_ch hg1).undrew⟩
    | exact ⟨⟨rfl, rfl, (by
      intro x9 hx9
      simp only [List.mem_cons, List.not_mem_nil, or_false] at hx9
      rcases hx9 with rfl | rfl | rfl | rfl | rfl
      all_goals first
        | rfl
        | exact congrArg some h0.symm
        | exact congrArg some h4.symm
        | exact congrArg some h5.symm)⟩, rfl, hr1, (grown_ch hg1).undrew⟩
    | exact ⟨⟨rfl, rfl, (by
      intro x9 hx9
      simp only [List.mem_cons, List.not_mem_nil, or_false] at hx9
      rcases hx9 with rfl | rfl | rfl | rfl | rfl
      all_goals first
        | rfl
        | exact congrArg some h0.symm
        | exact congrArg some h4.symm
        | exact congrArg some h5.symm)⟩, (grown_ch hg1).undrew⟩
    | exact ⟨⟨rfl, rfl, (by
      intro x9 hx9
      simp only [List.mem_cons, List.not_mem_nil, or_false] at hx9
      rcases hx9 with rfl | rfl | rfl | rfl | rfl
      all_goals first
        | rfl
        | exact congrArg some h0.symm
        | exact congrArg some h4.symm
        | exact congrArg some h5.symm)⟩, rfl, (grown_ch hg1).undrew⟩
set_option maxRecDepth 100000 in
set_option maxHeartbeats 8000000 in
theorem head_0c {wr : World} {s : List UInt8} {b : Nat} {r : Cd.Rd} (F G : Nat → Value) (Q0 : Exit → Act → World → Prop) (h0 : F 0 = .string ⟨s.toArray⟩) (h4 : F 4 = .pointer (some ⟨b, 0, none⟩)) (h5 : F 5 = .string ⟨#[69, 70, 49]⟩) (hr : RdM wr b s r) (hi : ¬ 0 < s.length) :
    Code.wp Tryz.prog ((Tryz.f15.body.map (fun c => (loopsOf c).getD 0 .skip)).getD .skip) (Exit.then (fun a' w' => FrK [0, 2, 3, 4, 5] F a' ∧ a'.tmps[6]? = some (.int .i64 1) ∧ RdM w' b s (r.no 13 0) ∧ Ch (fun k => k = b) wr w') Q0) ⟨#[.string ⟨s.toArray⟩, G 1, F 2, F 3, .pointer (some ⟨b, 0, none⟩), .string ⟨#[69, 70, 49]⟩, .int .i64 0, G 7, G 8, G 9, G 10, G 11, G 12, G 13, G 14, G 15, G 16, G 17, G 18, G 19, G 20, G 21, G 22, G 23, G 24, G 25, G 26, G 27, G 28, G 29, G 30, G 31, G 32, G 33, G 34, G 35, G 36, G 37, G 38, G 39, G 40, G 41, G 42, G 43, G 44, G 45, G 46, G 47, G 48, G 49, G 50, G 51, G 52, G 53, G 54, G 55, G 56, G 57, G 58, G 59, G 60, G 61, G 62, G 63, G 64, G 65, G 66, G 67, G 68, G 69, G 70, G 71, G 72, G 73, G 74, G 75, G 76, G 77, G 78, G 79, G 80, G 81, G 82, G 83, G 84, G 85, G 86, G 87, G 88, G 89, G 90, G 91, G 92, G 93, G 94, G 95, G 96, G 97, G 98, G 99, G 100, G 101, G 102, G 103, G 104, G 105, G 106, G 107, G 108, G 109, G 110, G 111, G 112, G 113, G 114, G 115, G 116, G 117, G 118, G 119, G 120, G 121, G 122, G 123, G 124, G 125, G 126, G 127, G 128, G 129, G 130, G 131, G 132, G 133, G 134, G 135, G 136, G 137, G 138, G 139, G 140, G 141, G 142, G 143, G 144, G 145, G 146, G 147, G 148, G 149, G 150, G 151, G 152, G 153, G 154, G 155, G 156, G 157, G 158, G 159, G 160, G 161, G 162, G 163, G 164, G 165, G 166, G 167, G 168, G 169, G 170, G 171, G 172, G 173, G 174, G 175, G 176, G 177, G 178, G 179, G 180, G 181, G 182, G 183, G 184, G 185, G 186, G 187, G 188, G 189, G 190, G 191, G 192, G 193, G 194, G 195], []⟩ wr := by
  have hmx : Tryz.prog.follows .mixedOrders = true := by kernel_rfl
  have hsz := size_mk s
  obtain rfl : s = [] := by
    cases s with
    | nil => rfl
    | cons a l => simp at hi
  have hge : ((([] : List UInt8).length : Nat) : Int) ≤ 0 := by simp
  have hno := no_any wr b _ r 13 0 hr
  unfold ptrV at hno
  conv => arg 2; whnf
  go_wp2_with (go_at_call 31; refine hno.mono ?_; clear hno; rintro e w1 ⟨rfl, hr1, hg1⟩; dsimp only)
  first
    | exact ⟨⟨rfl, rfl, (by
      intro x9 hx9
      simp only [List.mem_cons, List.not_mem_nil, or_false] at hx9
      rcases hx9 with rfl | rfl | rfl | rfl | rfl
      all_goals first
        | rfl
        | exact congrArg some h0.symm
        | exact congrArg some h4.symm
        | exact congrArg some h5.symm)⟩, hr1, grown_ch hg1⟩
    | exact ⟨⟨rfl, rfl, (by
      intro x9 hx9
      simp only [List.mem_cons, List.not_mem_nil, or_false] at hx9
      rcases hx9 with rfl | rfl | rfl | rfl | rfl
      all_goals first
        | rfl
        | exact congrArg some h0.symm
        | exact congrArg some h4.symm
        | exact congrArg some h5.symm)⟩, rfl, hr1, grown_ch hg1⟩
    | exact ⟨⟨rfl, rfl, (by
      intro x9 hx9
      simp only [List.mem_cons, List.not_mem_nil, or_false] at hx9
      rcases hx9 with rfl | rfl | rfl | rfl | rfl
      all_goals first
        | rfl
        | exact congrArg some h0.symm
        | exact congrArg some h4.symm
        | exact congrArg some h5.symm)⟩, grown_ch hg1⟩
    | exact ⟨⟨rfl, rfl, (by
      intro x9 hx9
      simp only [List.mem_cons, List.not_mem_nil, or_false] at hx9
      rcases hx9 with rfl | rfl | rfl | rfl | rfl
      all_goals first
        | rfl
        | exact congrArg some h0.symm
        | exact congrArg some h4.symm
        | exact congrArg some h5.symm)⟩, rfl, grown_ch hg1⟩
set_option maxRecDepth 100000 in
set_option maxHeartbeats 8000000 in
theorem head_1a {wr : World} {s : List UInt8} {b : Nat} {r : Cd.Rd} (F G : Nat → Value) (Q0 : Exit → Act → World → Prop) (h0 : F 0 = .string ⟨s.toArray⟩) (h4 : F 4 = .pointer (some ⟨b, 0, none⟩)) (h5 : F 5 = .string ⟨#[69, 70, 49]⟩) (hr : RdM wr b s r) (hi : 1 < s.length) (hc : (s[1]'hi).toNat = 70) :
    Code.wp Tryz.prog ((Tryz.f15.body.map (fun c => (loopsOf c).getD 0 .skip)).getD .skip) (Exit.then (fun a' w' => FrK [0, 2, 3, 4, 5] F a' ∧ a'.tmps[6]? = some (.int .i64 2) ∧ RdM w' b s r ∧ Ch (fun k => k = b) wr w') Q0) ⟨#[.string ⟨s.toArray⟩, G 1, F 2, F 3, .pointer (some ⟨b, 0, none⟩), .string ⟨#[69, 70, 49]⟩, .int .i64 1, G 7, G 8, G 9, G 10, G 11, G 12, G 13, G 14, G 15, G 16, G 17, G 18, G 19, G 20, G 21, G 22, G 23, G 24, G 25, G 26, G 27, G 28, G 29, G 30, G 31, G 32, G 33, G 34, G 35, G 36, G 37, G 38, G 39, G 40, G 41, G 42, G 43, G 44, G 45, G 46, G 47, G 48, G 49, G 50, G 51, G 52, G 53, G 54, G 55, G 56, G 57, G 58, G 59, G 60, G 61, G 62, G 63, G 64, G 65, G 66, G 67, G 68, G 69, G 70, G 71, G 72, G 73, G 74, G 75, G 76, G 77, G 78, G 79, G 80, G 81, G 82, G 83, G 84, G 85, G 86, G 87, G 88, G 89, G 90, G 91, G 92, G 93, G 94, G 95, G 96, G 97, G 98, G 99, G 100, G 101, G 102, G 103, G 104, G 105, G 106, G 107, G 108, G 109, G 110, G 111, G 112, G 113, G 114, G 115, G 116, G 117, G 118, G 119, G 120, G 121, G 122, G 123, G 124, G 125, G 126, G 127, G 128, G 129, G 130, G 131, G 132, G 133, G 134, G 135, G 136, G 137, G 138, G 139, G 140, G 141, G 142, G 143, G 144, G 145, G 146, G 147, G 148, G 149, G 150, G 151, G 152, G 153, G 154, G 155, G 156, G 157, G 158, G 159, G 160, G 161, G 162, G 163, G 164, G 165, G 166, G 167, G 168, G 169, G 170, G 171, G 172, G 173, G 174, G 175, G 176, G 177, G 178, G 179, G 180, G 181, G 182, G 183, G 184, G 185, G 186, G 187, G 188, G 189, G 190, G 191, G 192, G 193, G 194, G 195], []⟩ wr := by
  have hmx : Tryz.prog.follows .mixedOrders = true := by kernel_rfl
  have hsz := size_mk s
  have hge : ¬ ((s.length : Int) ≤ 1) := by omega
  have hlt : (1 : Int) < (s.length : Int) := by omega
  have hl0 : ¬ s.length = 0 := by omega
  have hnil : ¬ s = [] := fun e => by rw [e] at hi; simp at hi
  have hx : ∀ (h : 1 < (⟨s.toArray⟩ : ByteArray).size), ((⟨s.toArray⟩ : ByteArray)[1]'h).toNat = (s[1]'hi).toNat := fun h => rfl
  rw [hc] at hx
  conv => arg 2; whnf
  go_upto_region 10 with (fail)
  go_quiet (fail)
  go_wp2
  first
    | exact ⟨⟨rfl, rfl, (by
      intro x9 hx9
      simp only [List.mem_cons, List.not_mem_nil, or_false] at hx9
      rcases hx9 with rfl | rfl | rfl | rfl | rfl
      all_goals first
        | rfl
        | exact congrArg some h0.symm
        | exact congrArg some h4.symm
        | exact congrArg some h5.symm)⟩, hr, ⟨Nat.le_refl _, fun _ _ _ => rfl, rfl, rfl⟩⟩
    | exact ⟨⟨rfl, rfl, (by
      intro x9 hx9
      simp only [List.mem_cons, List.not_mem_nil, or_false] at hx9
      rcases hx9 with rfl | rfl | rfl | rfl | rfl
      all_goals first
        | rfl
        | exact congrArg some h0.symm
        | exact congrArg some h4.symm
        | exact congrArg some h5.symm)⟩, rfl, hr, ⟨Nat.le_refl _, fun _ _ _ => rfl, rfl, rfl⟩⟩
    | exact ⟨⟨rfl, rfl, (by
      intro x9 hx9
      simp only [List.mem_cons, List.not_mem_nil, or_false] at hx9
      rcases hx9 with rfl | rfl | rfl | rfl | rfl
      all_goals first
        | rfl
        | exact congrArg some h0.symm
        | exact congrArg some h4.symm
        | exact congrArg some h5.symm)⟩, ⟨Nat.le_refl _, fun _ _ _ => rfl, rfl, rfl⟩⟩
    | exact ⟨⟨rfl, rfl, (by
      intro x9 hx9
      simp only [List.mem_cons, List.not_mem_nil, or_false] at hx9
      rcases hx9 with rfl | rfl | rfl | rfl | rfl
      all_goals first
        | rfl
        | exact congrArg some h0.symm
        | exact congrArg some h4.symm
        | exact congrArg some h5.symm)⟩, rfl, ⟨Nat.le_refl _, fun _ _ _ => rfl, rfl, rfl⟩⟩
set_option maxRecDepth 100000 in
set_option maxHeartbeats 8000000 in
theorem head_1b {wr : World} {s : List UInt8} {b : Nat} {r : Cd.Rd} (F G : Nat → Value) (Q0 : Exit → Act → World → Prop) (h0 : F 0 = .string ⟨s.toArray⟩) (h4 : F 4 = .pointer (some ⟨b, 0, none⟩)) (h5 : F 5 = .string ⟨#[69, 70, 49]⟩) (hr : RdM wr b s r) (hi : 1 < s.length) (hc : ¬ (s[1]'hi).toNat = 70) :
    Code.wp Tryz.prog ((Tryz.f15.body.map (fun c => (loopsOf c).getD 0 .skip)).getD .skip) (Exit.then (fun a' w' => FrK [0, 2, 3, 4, 5] F a' ∧ a'.tmps[6]? = some (.int .i64 2) ∧ RdM w' b s (r.no 12 1) ∧ Ch (fun k => k = b) wr w') Q0) ⟨#[.string ⟨s.toArray⟩, G 1, F 2, F 3, .pointer (some ⟨b, 0, none⟩), .string ⟨#[69, 70, 49]⟩, .int .i64 1, G 7, G 8, G 9, G 10, G 11, G 12, G 13, G 14, G 15, G 16, G 17, G 18, G 19, G 20, G 21, G 22, G 23, G 24, G 25, G 26, G 27, G 28, G 29, G 30, G 31, G 32, G 33, G 34, G 35, G 36, G 37, G 38, G 39, G 40, G 41, G 42, G 43, G 44, G 45, G 46, G 47, G 48, G 49, G 50, G 51, G 52, G 53, G 54, G 55, G 56, G 57, G 58, G 59, G 60, G 61, G 62, G 63, G 64, G 65, G 66, G 67, G 68, G 69, G 70, G 71, G 72, G 73, G 74, G 75, G 76, G 77, G 78, G 79, G 80, G 81, G 82, G 83, G 84, G 85, G 86, G 87, G 88, G 89, G 90, G 91, G 92, G 93, G 94, G 95, G 96, G 97, G 98, G 99, G 100, G 101, G 102, G 103, G 104, G 105, G 106, G 107, G 108, G 109, G 110, G 111, G 112, G 113, G 114, G 115, G 116, G 117, G 118, G 119, G 120, G 121, G 122, G 123, G 124, G 125, G 126, G 127, G 128, G 129, G 130, G 131, G 132, G 133, G 134, G 135, G 136, G 137, G 138, G 139, G 140, G 141, G 142, G 143, G 144, G 145, G 146, G 147, G 148, G 149, G 150, G 151, G 152, G 153, G 154, G 155, G 156, G 157, G 158, G 159, G 160, G 161, G 162, G 163, G 164, G 165, G 166, G 167, G 168, G 169, G 170, G 171, G 172, G 173, G 174, G 175, G 176, G 177, G 178, G 179, G 180, G 181, G 182, G 183, G 184, G 185, G 186, G 187, G 188, G 189, G 190, G 191, G 192, G 193, G 194, G 195], []⟩ wr := by
  have hmx : Tryz.prog.follows .mixedOrders = true := by kernel_rfl
  have hsz := size_mk s
  have hge : ¬ ((s.length : Int) ≤ 1) := by omega
  have hlt : (1 : Int) < (s.length : Int) := by omega
  have hl0 : ¬ s.length = 0 := by omega
  have hnil : ¬ s = [] := fun e => by rw [e] at hi; simp at hi
  have hx : ∀ (h : 1 < (⟨s.toArray⟩ : ByteArray).size), ((⟨s.toArray⟩ : ByteArray)[1]'h).toNat = (s[1]'hi).toNat := fun h => rfl
  have hcI : ¬ (((s[1]'hi).toNat : Int) = 70) := by omega
  have hcB : (((s[1]'hi).toNat : Int) != (((⟨#[69, 70, 49]⟩ : ByteArray)[1]'(by decide)).toNat : Int)) = true := by
    show (((s[1]'hi).toNat : Int) != (70 : Int)) = true
    simpa using hcI
  have hno := fun w (h : RdM w b s r) => no_any w b s r 12 1 h
  unfold ptrV at hno
  conv => arg 2; whnf
  go_upto_region 10 with (fail)
  go_quiet (fail)
  go_wp2_with (go_at_call 31; refine (hno _ (show RdM (wr.drewN nq) b s r from hr)).mono ?_; clear hno; rintro e w1 ⟨rfl, hr1, hg1⟩; dsimp only)
  first
    | exact ⟨⟨rfl, rfl, (by
      intro x9 hx9
      simp only [List.mem_cons, List.not_mem_nil, or_false] at hx9
      rcases hx9 with rfl | rfl | rfl | rfl | rfl
      all_goals first
        | rfl
        | exact congrArg some h0.symm
        | exact congrArg some h4.symm
        | exact congrArg some h5.symm)⟩, hr1, (grown_ch hg1).undrew⟩
    | exact ⟨⟨rfl, rfl, (by
      intro x9 hx9
      simp only [List.mem_cons, List.not_mem_nil, or_false] at hx9
      rcases hx9 with rfl | rfl | rfl | rfl | rfl
      all_goals first
        | rfl
        | exact congrArg some h0.symm
        | exact congrArg some h4.symm
        | exact congrArg some h5.symm)⟩, rfl, hr1, (grown_ch hg1).undrew⟩
    | exact ⟨⟨rfl, rfl, (by
      intro x9 hx9
      simp only [List.mem_cons, List.not_mem_nil, or_false] at hx9
      rcases hx9 with rfl | rfl | rfl | rfl | rfl
      all_goals first
        | rfl
        | exact congrArg some h0.symm
        | exact congrArg some h4.symm
        | exact congrArg some h5.symm)⟩, (grown_ch hg1).undrew⟩
    | exact ⟨⟨rfl, rfl, (by
      intro x9 hx9
      simp only [List.mem_cons, List.not_mem_nil, or_false] at hx9
      rcases hx9 with rfl | rfl | rfl | rfl | rfl
      all_goals first
        | rfl
        | exact congrArg some h0.symm
        | exact congrArg some h4.symm
        | exact congrArg some h5.symm)⟩, rfl, (grown_ch hg1).undrew⟩
set_option maxRecDepth 100000 in
set_option maxHeartbeats 8000000 in
theorem head_1c {wr : World} {s : List UInt8} {b : Nat} {r : Cd.Rd} (F G : Nat → Value) (Q0 : Exit → Act → World → Prop) (h0 : F 0 = .string ⟨s.toArray⟩) (h4 : F 4 = .pointer (some ⟨b, 0, none⟩)) (h5 : F 5 = .string ⟨#[69, 70, 49]⟩) (hr : RdM wr b s r) (hi : ¬ 1 < s.length) :
    Code.wp Tryz.prog ((Tryz.f15.body.map (fun c => (loopsOf c).getD 0 .skip)).getD .skip) (Exit.then (fun a' w' => FrK [0, 2, 3, 4, 5] F a' ∧ a'.tmps[6]? = some (.int .i64 2) ∧ RdM w' b s (r.no 13 1) ∧ Ch (fun k => k = b) wr w') Q0) ⟨#[.string ⟨s.toArray⟩, G 1, F 2, F 3, .pointer (some ⟨b, 0, none⟩), .string ⟨#[69, 70, 49]⟩, .int .i64 1, G 7, G 8, G 9, G 10, G 11, G 12, G 13, G 14, G 15, G 16, G 17, G 18, G 19, G 20, G 21, G 22, G 23, G 24, G 25, G 26, G 27, G 28, G 29, G 30, G 31, G 32, G 33, G 34, G 35, G 36, G 37, G 38, G 39, G 40, G 41, G 42, G 43, G 44, G 45, G 46, G 47, G 48, G 49, G 50, G 51, G 52, G 53, G 54, G 55, G 56, G 57, G 58, G 59, G 60, G 61, G 62, G 63, G 64, G 65, G 66, G 67, G 68, G 69, G 70, G 71, G 72, G 73, G 74, G 75, G 76, G 77, G 78, G 79, G 80, G 81, G 82, G 83, G 84, G 85, G 86, G 87, G 88, G 89, G 90, G 91, G 92, G 93, G 94, G 95, G 96, G 97, G 98, G 99, G 100, G 101, G 102, G 103, G 104, G 105, G 106, G 107, G 108, G 109, G 110, G 111, G 112, G 113, G 114, G 115, G 116, G 117, G 118, G 119, G 120, G 121, G 122, G 123, G 124, G 125, G 126, G 127, G 128, G 129, G 130, G 131, G 132, G 133, G 134, G 135, G 136, G 137, G 138, G 139, G 140, G 141, G 142, G 143, G 144, G 145, G 146, G 147, G 148, G 149, G 150, G 151, G 152, G 153, G 154, G 155, G 156, G 157, G 158, G 159, G 160, G 161, G 162, G 163, G 164, G 165, G 166, G 167, G 168, G 169, G 170, G 171, G 172, G 173, G 174, G 175, G 176, G 177, G 178, G 179, G 180, G 181, G 182, G 183, G 184, G 185, G 186, G 187, G 188, G 189, G 190, G 191, G 192, G 193, G 194, G 195], []⟩ wr := by
  have hmx : Tryz.prog.follows .mixedOrders = true := by kernel_rfl
  have hsz := size_mk s
  have hge : (s.length : Int) ≤ 1 := by omega
  have hno := no_any wr b _ r 13 1 hr
  unfold ptrV at hno
  conv => arg 2; whnf
  go_wp2_with (go_at_call 31; refine hno.mono ?_; clear hno; rintro e w1 ⟨rfl, hr1, hg1⟩; dsimp only)
  first
    | exact ⟨⟨rfl, rfl, (by
      intro x9 hx9
      simp only [List.mem_cons, List.not_mem_nil, or_false] at hx9
      rcases hx9 with rfl | rfl | rfl | rfl | rfl
      all_goals first
        | rfl
        | exact congrArg some h0.symm
        | exact congrArg some h4.symm
        | exact congrArg some h5.symm)⟩, hr1, grown_ch hg1⟩
    | exact ⟨⟨rfl, rfl, (by
      intro x9 hx9
      simp only [List.mem_cons, List.not_mem_nil, or_false] at hx9
      rcases hx9 with rfl | rfl | rfl | rfl | rfl
      all_goals first
        | rfl
        | exact congrArg some h0.symm
        | exact congrArg some h4.symm
        | exact congrArg some h5.symm)⟩, rfl, hr1, grown_ch hg1⟩
    | exact ⟨⟨rfl, rfl, (by
      intro x9 hx9
      simp only [List.mem_cons, List.not_mem_nil, or_false] at hx9
      rcases hx9 with rfl | rfl | rfl | rfl | rfl
      all_goals first
        | rfl
        | exact congrArg some h0.symm
        | exact congrArg some h4.symm
        | exact congrArg some h5.symm)⟩, grown_ch hg1⟩
    | exact ⟨⟨rfl, rfl, (by
      intro x9 hx9
      simp only [List.mem_cons, List.not_mem_nil, or_false] at hx9
      rcases hx9 with rfl | rfl | rfl | rfl | rfl
      all_goals first
        | rfl
        | exact congrArg some h0.symm
        | exact congrArg some h4.symm
        | exact congrArg some h5.symm)⟩, rfl, grown_ch hg1⟩
set_option maxRecDepth 100000 in
set_option maxHeartbeats 8000000 in
theorem head_2a {wr : World} {s : List UInt8} {b : Nat} {r : Cd.Rd} (F G : Nat → Value) (Q0 : Exit → Act → World → Prop) (h0 : F 0 = .string ⟨s.toArray⟩) (h4 : F 4 = .pointer (some ⟨b, 0, none⟩)) (h5 : F 5 = .string ⟨#[69, 70, 49]⟩) (hr : RdM wr b s r) (hi : 2 < s.length) (hc : (s[2]'hi).toNat = 49) :
    Code.wp Tryz.prog ((Tryz.f15.body.map (fun c => (loopsOf c).getD 0 .skip)).getD .skip) (Exit.then (fun a' w' => FrK [0, 2, 3, 4, 5] F a' ∧ a'.tmps[6]? = some (.int .i64 3) ∧ RdM w' b s r ∧ Ch (fun k => k = b) wr w') Q0) ⟨#[.string ⟨s.toArray⟩, G 1, F 2, F 3, .pointer (some ⟨b, 0, none⟩), .string ⟨#[69, 70, 49]⟩, .int .i64 2, G 7, G 8, G 9, G 10, G 11, G 12, G 13, G 14, G 15, G 16, G 17, G 18, G 19, G 20, G 21, G 22, G 23, G 24, G 25, G 26, G 27, G 28, G 29, G 30, G 31, G 32, G 33, G 34, G 35, G 36, G 37, G 38, G 39, G 40, G 41, G 42, G 43, G 44, G 45, G 46, G 47, G 48, G 49, G 50, G 51, G 52, G 53, G 54, G 55, G 56, G 57, G 58, G 59, G 60, G 61, G 62, G 63, G 64, G 65, G 66, G 67, G 68, G 69, G 70, G 71, G 72, G 73, G 74, G 75, G 76, G 77, G 78, G 79, G 80, G 81, G 82, G 83, G 84, G 85, G 86, G 87, G 88, G 89, G 90, G 91, G 92, G 93, G 94, G 95, G 96, G 97, G 98, G 99, G 100, G 101, G 102, G 103, G 104, G 105, G 106, G 107, G 108, G 109, G 110, G 111, G 112, G 113, G 114, G 115, G 116, G 117, G 118, G 119, G 120, G 121, G 122, G 123, G 124, G 125, G 126, G 127, G 128, G 129, G 130, G 131, G 132, G 133, G 134, G 135, G 136, G 137, G 138, G 139, G 140, G 141, G 142, G 143, G 144, G 145, G 146, G 147, G 148, G 149, G 150, G 151, G 152, G 153, G 154, G 155, G 156, G 157, G 158, G 159, G 160, G 161, G 162, G 163, G 164, G 165, G 166, G 167, G 168, G 169, G 170, G 171, G 172, G 173, G 174, G 175, G 176, G 177, G 178, G 179, G 180, G 181, G 182, G 183, G 184, G 185, G 186, G 187, G 188, G 189, G 190, G 191, G 192, G 193, G 194, G 195], []⟩ wr := by
  have hmx : Tryz.prog.follows .mixedOrders = true := by kernel_rfl
  have hsz := size_mk s
  have hge : ¬ ((s.length : Int) ≤ 2) := by omega
  have hlt : (2 : Int) < (s.length : Int) := by omega
  have hl0 : ¬ s.length = 0 := by omega
  have hnil : ¬ s = [] := fun e => by rw [e] at hi; simp at hi
  have hx : ∀ (h : 2 < (⟨s.toArray⟩ : ByteArray).size), ((⟨s.toArray⟩ : ByteArray)[2]'h).toNat = (s[2]'hi).toNat := fun h => rfl
  rw [hc] at hx
  conv => arg 2; whnf
  go_upto_region 10 with (fail)
  go_quiet (fail)
  go_wp2
  first
    | exact ⟨⟨rfl, rfl, (by
      intro x9 hx9
      simp only [List.mem_cons, List.not_mem_nil, or_false] at hx9
      rcases hx9 with rfl | rfl | rfl | rfl | rfl
      all_goals first
        | rfl
        | exact congrArg some h0.symm
        | exact congrArg some h4.symm
        | exact congrArg some h5.symm)⟩, hr, ⟨Nat.le_refl _, fun _ _ _ => rfl, rfl, rfl⟩⟩
    | exact ⟨⟨rfl, rfl, (by
      intro x9 hx9
      simp only [List.mem_cons, List.not_mem_nil, or_false] at hx9
      rcases hx9 with rfl | rfl | rfl | rfl | rfl
      all_goals first
        | rfl
        | exact congrArg some h0.symm
        | exact congrArg some h4.symm
        | exact congrArg some h5.symm)⟩, rfl, hr, ⟨Nat.le_refl _, fun _ _ _ => rfl, rfl, rfl⟩⟩
    | exact ⟨⟨rfl, rfl, (by
      intro x9 hx9
      simp only [List.mem_cons, List.not_mem_nil, or_false] at hx9
      rcases hx9 with rfl | rfl | rfl | rfl | rfl
      all_goals first
        | rfl
        | exact congrArg some h0.symm
        | exact congrArg some h4.symm
        | exact congrArg some h5.symm)⟩, ⟨Nat.le_refl _, fun _ _ _ => rfl, rfl, rfl⟩⟩
    | exact ⟨⟨rfl, rfl, (by
      intro x9 hx9
      simp only [List.mem_cons, List.not_mem_nil, or_false] at hx9
      rcases hx9 with rfl | rfl | rfl | rfl | rfl
      all_goals first
        | rfl
        | exact congrArg some h0.symm
        | exact congrArg some h4.symm
        | exact congrArg some h5.symm)⟩, rfl, ⟨Nat.le_refl _, fun _ _ _ => rfl, rfl, rfl⟩⟩
set_option maxRecDepth 100000 in
set_option maxHeartbeats 8000000 in
theorem head_2b {wr : World} {s : List UInt8} {b : Nat} {r : Cd.Rd} (F G : Nat → Value) (Q0 : Exit → Act → World → Prop) (h0 : F 0 = .string ⟨s.toArray⟩) (h4 : F 4 = .pointer (some ⟨b, 0, none⟩)) (h5 : F 5 = .string ⟨#[69, 70, 49]⟩) (hr : RdM wr b s r) (hi : 2 < s.length) (hc : ¬ (s[2]'hi).toNat = 49) :
    Code.wp Tryz.prog ((Tryz.f15.body.map (fun c => (loopsOf c).getD 0 .skip)).getD .skip) (Exit.then (fun a' w' => FrK [0, 2, 3, 4, 5] F a' ∧ a'.tmps[6]? = some (.int .i64 3) ∧ RdM w' b s (r.no 12 2) ∧ Ch (fun k => k = b) wr w') Q0) ⟨#[.string ⟨s.toArray⟩, G 1, F 2, F 3, .pointer (some ⟨b, 0, none⟩), .string ⟨#[69, 70, 49]⟩, .int .i64 2, G 7, G 8, G 9, G 10, G 11, G 12, G 13, G 14, G 15, G 16, G 17, G 18, G 19, G 20, G 21, G 22, G 23, G 24, G 25, G 26, G 27, G 28, G 29, G 30, G 31, G 32, G 33, G 34, G 35, G 36, G 37, G 38, G 39, G 40, G 41, G 42, G 43, G 44, G 45, G 46, G 47, G 48, G 49, G 50, G 51, G 52, G 53, G 54, G 55, G 56, G 57, G 58, G 59, G 60, G 61, G 62, G 63, G 64, G 65, G 66, G 67, G 68, G 69, G 70, G 71, G 72, G 73, G 74, G 75, G 76, G 77, G 78, G 79, G 80, G 81, G 82, G 83, G 84, G 85, G 86, G 87, G 88, G 89, G 90, G 91, G 92, G 93, G 94, G 95, G 96, G 97, G 98, G 99, G 100, G 101, G 102, G 103, G 104, G 105, G 106, G 107, G 108, G 109, G 110, G 111, G 112, G 113, G 114, G 115, G 116, G 117, G 118, G 119, G 120, G 121, G 122, G 123, G 124, G 125, G 126, G 127, G 128, G 129, G 130, G 131, G 132, G 133, G 134, G 135, G 136, G 137, G 138, G 139, G 140, G 141, G 142, G 143, G 144, G 145, G 146, G 147, G 148, G 149, G 150, G 151, G 152, G 153, G 154, G 155, G 156, G 157, G 158, G 159, G 160, G 161, G 162, G 163, G 164, G 165, G 166, G 167, G 168, G 169, G 170, G 171, G 172, G 173, G 174, G 175, G 176, G 177, G 178, G 179, G 180, G 181, G 182, G 183, G 184, G 185, G 186, G 187, G 188, G 189, G 190, G 191, G 192, G 193, G 194, G 195], []⟩ wr := by
  have hmx : Tryz.prog.follows .mixedOrders = true := by kernel_rfl
  have hsz := size_mk s
  have hge : ¬ ((s.length : Int) ≤ 2) := by omega
  have hlt : (2 : Int) < (s.length : Int) := by omega
  have hl0 : ¬ s.length = 0 := by omega
  have hnil : ¬ s = [] := fun e => by rw [e] at hi; simp at hi
  have hx : ∀ (h : 2 < (⟨s.toArray⟩ : ByteArray).size), ((⟨s.toArray⟩ : ByteArray)[2]'h).toNat = (s[2]'hi).toNat := fun h => rfl
  have hcI : ¬ (((s[2]'hi).toNat : Int) = 49) := by omega
  have hcB : (((s[2]'hi).toNat : Int) != (((⟨#[69, 70, 49]⟩ : ByteArray)[2]'(by decide)).toNat : Int)) = true := by
    show (((s[2]'hi).toNat : Int) != (49 : Int)) = true
    simpa using hcI
  have hno := fun w (h : RdM w b s r) => no_any w b s r 12 2 h
  unfold ptrV at hno
  conv => arg 2; whnf
  go_upto_region 10 with (fail)
  go_quiet (fail)
  go_wp2_with (go_at_call 31; refine (hno _ (show RdM (wr.drewN nq) b s r from hr)).mono ?_; clear hno; rintro e w1 ⟨rfl, hr1, hg1⟩; dsimp only)
  first
    | exact ⟨⟨rfl, rfl, (by
      intro x9 hx9
      simp only [List.mem_cons, List.not_mem_nil, or_false] at hx9
      rcases hx9 with rfl | rfl | rfl | rfl | rfl
      all_goals first
        | rfl
        | exact congrArg some h0.symm
        | exact congrArg some h4.symm
        | exact congrArg some h5.symm)⟩, hr1, (grown_ch hg1).undrew⟩
    | exact ⟨⟨rfl, rfl, (by
      intro x9 hx9
      simp only [List.mem_cons, List.not_mem_nil, or_false] at hx9
      rcases hx9 with rfl | rfl | rfl | rfl | rfl
      all_goals first
        | rfl
        | exact congrArg some h0.symm
        | exact congrArg some h4.symm
        | exact congrArg some h5.symm)⟩, rfl, hr1, (grown_ch hg1).undrew⟩
    | exact ⟨⟨rfl, rfl, (by
      intro x9 hx9
      simp only [List.mem_cons, List.not_mem_nil, or_false] at hx9
      rcases hx9 with rfl | rfl | rfl | rfl | rfl
      all_goals first
        | rfl
        | exact congrArg some h0.symm
        | exact congrArg some h4.symm
        | exact congrArg some h5.symm)⟩, (grown_ch hg1).undrew⟩
    | exact ⟨⟨rfl, rfl, (by
      intro x9 hx9
      simp only [List.mem_cons, List.not_mem_nil, or_false] at hx9
      rcases hx9 with rfl | rfl | rfl | rfl | rfl
      all_goals first
        | rfl
        | exact congrArg some h0.symm
        | exact congrArg some h4.symm
        | exact congrArg some h5.symm)⟩, rfl, (grown_ch hg1).undrew⟩
set_option maxRecDepth 100000 in
set_option maxHeartbeats 8000000 in
theorem head_2c {wr : World} {s : List UInt8} {b : Nat} {r : Cd.Rd} (F G : Nat → Value) (Q0 : Exit → Act → World → Prop) (h0 : F 0 = .string ⟨s.toArray⟩) (h4 : F 4 = .pointer (some ⟨b, 0, none⟩)) (h5 : F 5 = .string ⟨#[69, 70, 49]⟩) (hr : RdM wr b s r) (hi : ¬ 2 < s.length) :
    Code.wp Tryz.prog ((Tryz.f15.body.map (fun c => (loopsOf c).getD 0 .skip)).getD .skip) (Exit.then (fun a' w' => FrK [0, 2, 3, 4, 5] F a' ∧ a'.tmps[6]? = some (.int .i64 3) ∧ RdM w' b s (r.no 13 2) ∧ Ch (fun k => k = b) wr w') Q0) ⟨#[.string ⟨s.toArray⟩, G 1, F 2, F 3, .pointer (some ⟨b, 0, none⟩), .string ⟨#[69, 70, 49]⟩, .int .i64 2, G 7, G 8, G 9, G 10, G 11, G 12, G 13, G 14, G 15, G 16, G 17, G 18, G 19, G 20, G 21, G 22, G 23, G 24, G 25, G 26, G 27, G 28, G 29, G 30, G 31, G 32, G 33, G 34, G 35, G 36, G 37, G 38, G 39, G 40, G 41, G 42, G 43, G 44, G 45, G 46, G 47, G 48, G 49, G 50, G 51, G 52, G 53, G 54, G 55, G 56, G 57, G 58, G 59, G 60, G 61, G 62, G 63, G 64, G 65, G 66, G 67, G 68, G 69, G 70, G 71, G 72, G 73, G 74, G 75, G 76, G 77, G 78, G 79, G 80, G 81, G 82, G 83, G 84, G 85, G 86, G 87, G 88, G 89, G 90, G 91, G 92, G 93, G 94, G 95, G 96, G 97, G 98, G 99, G 100, G 101, G 102, G 103, G 104, G 105, G 106, G 107, G 108, G 109, G 110, G 111, G 112, G 113, G 114, G 115, G 116, G 117, G 118, G 119, G 120, G 121, G 122, G 123, G 124, G 125, G 126, G 127, G 128, G 129, G 130, G 131, G 132, G 133, G 134, G 135, G 136, G 137, G 138, G 139, G 140, G 141, G 142, G 143, G 144, G 145, G 146, G 147, G 148, G 149, G 150, G 151, G 152, G 153, G 154, G 155, G 156, G 157, G 158, G 159, G 160, G 161, G 162, G 163, G 164, G 165, G 166, G 167, G 168, G 169, G 170, G 171, G 172, G 173, G 174, G 175, G 176, G 177, G 178, G 179, G 180, G 181, G 182, G 183, G 184, G 185, G 186, G 187, G 188, G 189, G 190, G 191, G 192, G 193, G 194, G 195], []⟩ wr := by
  have hmx : Tryz.prog.follows .mixedOrders = true := by kernel_rfl
  have hsz := size_mk s
  have hge : (s.length : Int) ≤ 2 := by omega
  have hno := no_any wr b _ r 13 2 hr
  unfold ptrV at hno
  conv => arg 2; whnf
  go_wp2_with (go_at_call 31; refine hno.mono ?_; clear hno; rintro e w1 ⟨rfl, hr1, hg1⟩; dsimp only)
  first
    | exact ⟨⟨rfl, rfl, (by
      intro x9 hx9
      simp only [List.mem_cons, List.not_mem_nil, or_false] at hx9
      rcases hx9 with rfl | rfl | rfl | rfl | rfl
      all_goals first
        | rfl
        | exact congrArg some h0.symm
        | exact congrArg some h4.symm
        | exact congrArg some h5.symm)⟩, hr1, grown_ch hg1⟩
    | exact ⟨⟨rfl, rfl, (by
      intro x9 hx9
      simp only [List.mem_cons, List.not_mem_nil, or_false] at hx9
      rcases hx9 with rfl | rfl | rfl | rfl | rfl
      all_goals first
        | rfl
        | exact congrArg some h0.symm
        | exact congrArg some h4.symm
        | exact congrArg some h5.symm)⟩, rfl, hr1, grown_ch hg1⟩
    | exact ⟨⟨rfl, rfl, (by
      intro x9 hx9
      simp only [List.mem_cons, List.not_mem_nil, or_false] at hx9
      rcases hx9 with rfl | rfl | rfl | rfl | rfl
      all_goals first
        | rfl
        | exact congrArg some h0.symm
        | exact congrArg some h4.symm
        | exact congrArg some h5.symm)⟩, grown_ch hg1⟩
    | exact ⟨⟨rfl, rfl, (by
      intro x9 hx9
      simp only [List.mem_cons, List.not_mem_nil, or_false] at hx9
      rcases hx9 with rfl | rfl | rfl | rfl | rfl
      all_goals first
        | rfl
        | exact congrArg some h0.symm
        | exact congrArg some h4.symm
        | exact congrArg some h5.symm)⟩, rfl, grown_ch hg1⟩
end Go.Proofs.YtpjbfdpblgjmfaaGreatDoor

namespace Go.Proofs.YtpjbfdpblgjmfaaGreatDoor
open Go.RowKit

/-- What a round makes of the Reader. -/
def hd3 (s : List UInt8) (j : Nat) (r : Cd.Rd) : Cd.Rd := match s[j]?, Cd.head[j]? with
    | none, _ => r.no 13 j
    | some c, some d => if c = d then r else r.no 12 j
    | some _, none => r
theorem head_succ (s : List UInt8) (n : Nat) (r : Cd.Rd) : Cd.Rd.head s (n + 1) r = Cd.Rd.head s n (hd3 s (2 - n) r) := rfl
theorem hd3_none {s : List UInt8} {j : Nat} {r : Cd.Rd} (h : ¬ j < s.length) : hd3 s j r = r.no 13 j := by
  unfold hd3
  rw [List.getElem?_eq_none (by omega)]
theorem hd3_some {s : List UInt8} {j : Nat} {r : Cd.Rd} {d : UInt8} (h : j < s.length) (hd : Cd.head[j]? = some d) : hd3 s j r = if (s[j]'h).toNat = d.toNat then r else r.no 12 j := by
  unfold hd3
  rw [List.getElem?_eq_getElem h, hd]
  by_cases e : s[j] = d
  · rw [e]; simp
  · have : ¬ (s[j]'h).toNat = d.toNat := fun e2 => e (UInt8.toNat_inj.1 e2)
    simp [e, this]
set_option maxRecDepth 100000 in
set_option maxHeartbeats 8000000 in
theorem head_exit {wr : World} {s : List UInt8} {b : Nat} (F G : Nat → Value) (Q0 : Exit → Act → World → Prop) (J : Act → World → Prop) (h0 : F 0 = .string ⟨s.toArray⟩) (h4 : F 4 = .pointer (some ⟨b, 0, none⟩)) (h5 : F 5 = .string ⟨#[69, 70, 49]⟩) (hexit : ∀ a', FrK [0, 2, 3, 4, 5] F a' → Q0 (.exit 0) a' wr) :
    Code.wp Tryz.prog ((Tryz.f15.body.map (fun c => (loopsOf c).getD 0 .skip)).getD .skip) (Exit.then J Q0) ⟨#[.string ⟨s.toArray⟩, G 1, F 2, F 3, .pointer (some ⟨b, 0, none⟩), .string ⟨#[69, 70, 49]⟩, .int .i64 3, G 7, G 8, G 9, G 10, G 11, G 12, G 13, G 14, G 15, G 16, G 17, G 18, G 19, G 20, G 21, G 22, G 23, G 24, G 25, G 26, G 27, G 28, G 29, G 30, G 31, G 32, G 33, G 34, G 35, G 36, G 37, G 38, G 39, G 40, G 41, G 42, G 43, G 44, G 45, G 46, G 47, G 48, G 49, G 50, G 51, G 52, G 53, G 54, G 55, G 56, G 57, G 58, G 59, G 60, G 61, G 62, G 63, G 64, G 65, G 66, G 67, G 68, G 69, G 70, G 71, G 72, G 73, G 74, G 75, G 76, G 77, G 78, G 79, G 80, G 81, G 82, G 83, G 84, G 85, G 86, G 87, G 88, G 89, G 90, G 91, G 92, G 93, G 94, G 95, G 96, G 97, G 98, G 99, G 100, G 101, G 102, G 103, G 104, G 105, G 106, G 107, G 108, G 109, G 110, G 111, G 112, G 113, G 114, G 115, G 116, G 117, G 118, G 119, G 120, G 121, G 122, G 123, G 124, G 125, G 126, G 127, G 128, G 129, G 130, G 131, G 132, G 133, G 134, G 135, G 136, G 137, G 138, G 139, G 140, G 141, G 142, G 143, G 144, G 145, G 146, G 147, G 148, G 149, G 150, G 151, G 152, G 153, G 154, G 155, G 156, G 157, G 158, G 159, G 160, G 161, G 162, G 163, G 164, G 165, G 166, G 167, G 168, G 169, G 170, G 171, G 172, G 173, G 174, G 175, G 176, G 177, G 178, G 179, G 180, G 181, G 182, G 183, G 184, G 185, G 186, G 187, G 188, G 189, G 190, G 191, G 192, G 193, G 194, G 195], []⟩ wr := by
  conv => arg 2; whnf
  go_wp2
  refine ⟨rfl, rfl, fun x9 hx9 => ?_⟩
  simp only [List.mem_cons, List.not_mem_nil, or_false] at hx9
  rcases hx9 with rfl | rfl | rfl | rfl | rfl
  all_goals first
    | rfl
    | exact congrArg some h0.symm
    | exact congrArg some h4.symm
    | exact congrArg some h5.symm
theorem head_loop {W : World} {s : List UInt8} {b : Nat} {r0 : Cd.Rd} (F : Nat → Value) (Q0 : Exit → Act → World → Prop) (h0 : F 0 = .string ⟨s.toArray⟩) (h4 : F 4 = .pointer (some ⟨b, 0, none⟩)) (h5 : F 5 = .string ⟨#[69, 70, 49]⟩) (hr : RdM W b s r0) (a0 : Act) (hfr : FrK [0, 2, 3, 4, 5] F a0) (h6 : a0.tmps[6]? = some (.int .i64 0))
    (hexit : ∀ a' w', FrK [0, 2, 3, 4, 5] F a' → RdM w' b s (Cd.Rd.head s 3 r0) → Ch (fun k => k = b) W w' → Q0 (.exit 0) a' w') : Code.wp Tryz.prog (Code.loop ((Tryz.f15.body.map (fun c => (loopsOf c).getD 0 .skip)).getD .skip)) Q0 a0 W := by
  refine wp_loop (fun a w => ∃ (i : Nat) (r : Cd.Rd), i ≤ 3 ∧ FrK [0, 2, 3, 4, 5] F a ∧ a.tmps[6]? = some (.int .i64 (i : Nat)) ∧ RdM w b s r ∧ Ch (fun k => k = b) W w ∧ Cd.Rd.head s (3 - i) r = Cd.Rd.head s 3 r0) (fun a _ => 3 - (intOf (a.tmps.getD 6 undef)).toNat) ⟨0, r0, Nat.zero_le _, hfr, h6, hr, Ch.refl _ _, rfl⟩ ?_
  rintro a w ⟨i, r, hi, hf, hi6, hd, hch, hrel⟩
  have hmu : (intOf (a.tmps.getD 6 undef)).toNat = i := by simp [Array.getD_eq_getD_getElem?, hi6, intOf]
  rw [hmu]
  have fin : ∀ (r' : Cd.Rd) (a' : Act) (w' : World), i < 3 → hd3 s i r = r' → FrK [0, 2, 3, 4, 5] F a' → a'.tmps[6]? = some (.int .i64 ((i + 1 : Nat) : Int)) → RdM w' b s r' → Ch (fun k => k = b) w w' → (∃ (i : Nat) (r : Cd.Rd), i ≤ 3 ∧ FrK [0, 2, 3, 4, 5] F a' ∧ a'.tmps[6]? = some (.int .i64 (i : Nat)) ∧ RdM w' b s r ∧ Ch (fun k => k = b) W w' ∧ Cd.Rd.head s (3 - i) r = Cd.Rd.head s 3 r0) ∧ 3 - (intOf (a'.tmps.getD 6 undef)).toNat < 3 - i := fun r' a' w' hlt e b1 b2 b3 b4 => by
    refine ⟨⟨i + 1, r', by omega, b1, b2, b3, hch.trans b4 (fun _ e => .inl e), ?_⟩, ?_⟩
    · rw [← hrel, show 3 - i = (2 - i) + 1 by omega, head_succ, show 2 - (2 - i) = i by omega, e, show 3 - (i + 1) = 2 - i by omega]
    · simp only [Array.getD_eq_getD_getElem?, b2, Option.getD_some, intOf]
      omega
  obtain ⟨G, rfl, hG⟩ := act_open hf.sz hf.df
  have f0 : G 0 = F 0 := hG 0 _ (hf.k 0 (by simp))
  have f2 : G 2 = F 2 := hG 2 _ (hf.k 2 (by simp))
  have f3 : G 3 = F 3 := hG 3 _ (hf.k 3 (by simp))
  have f4 : G 4 = F 4 := hG 4 _ (hf.k 4 (by simp))
  have f5 : G 5 = F 5 := hG 5 _ (hf.k 5 (by simp))
  have f6 : G 6 = .int .i64 (i : Nat) := hG 6 _ hi6
  rw [h0] at f0
  rw [h4] at f4
  rw [h5] at f5
  rw [f0, f2, f3, f4, f5, f6]
  clear hG hf hi6
  have hc : i = 0 ∨ i = 1 ∨ i = 2 ∨ i = 3 := by omega
  rcases hc with rfl | rfl | rfl | rfl
  · by_cases hl : 0 < s.length
    · by_cases hc : (s[0]'hl).toNat = 69
      · refine wp_mono (head_0a F G Q0 h0 h4 h5 hd hl hc) ?_
        intro e a' w' h
        cases e <;> first | exact fin r a' w' (by omega) (by rw [hd3_some hl (d := 69) rfl]; exact if_pos hc) h.1 h.2.1 h.2.2.1 h.2.2.2 | exact h
      · refine wp_mono (head_0b F G Q0 h0 h4 h5 hd hl hc) ?_
        intro e a' w' h
        cases e <;> first | exact fin _ a' w' (by omega) (by rw [hd3_some hl (d := 69) rfl]; exact if_neg hc) h.1 h.2.1 h.2.2.1 h.2.2.2 | exact h
    · refine wp_mono (head_0c F G Q0 h0 h4 h5 hd hl) ?_
      intro e a' w' h
      cases e <;> first | exact fin _ a' w' (by omega) (hd3_none hl) h.1 h.2.1 h.2.2.1 h.2.2.2 | exact h
  · by_cases hl : 1 < s.length
    · by_cases hc : (s[1]'hl).toNat = 70
      · refine wp_mono (head_1a F G Q0 h0 h4 h5 hd hl hc) ?_
        intro e a' w' h
        cases e <;> first | exact fin r a' w' (by omega) (by rw [hd3_some hl (d := 70) rfl]; exact if_pos hc) h.1 h.2.1 h.2.2.1 h.2.2.2 | exact h
      · refine wp_mono (head_1b F G Q0 h0 h4 h5 hd hl hc) ?_
        intro e a' w' h
        cases e <;> first | exact fin _ a' w' (by omega) (by rw [hd3_some hl (d := 70) rfl]; exact if_neg hc) h.1 h.2.1 h.2.2.1 h.2.2.2 | exact h
    · refine wp_mono (head_1c F G Q0 h0 h4 h5 hd hl) ?_
      intro e a' w' h
      cases e <;> first | exact fin _ a' w' (by omega) (hd3_none hl) h.1 h.2.1 h.2.2.1 h.2.2.2 | exact h
  · by_cases hl : 2 < s.length
    · by_cases hc : (s[2]'hl).toNat = 49
      · refine wp_mono (head_2a F G Q0 h0 h4 h5 hd hl hc) ?_
        intro e a' w' h
        cases e <;> first | exact fin r a' w' (by omega) (by rw [hd3_some hl (d := 49) rfl]; exact if_pos hc) h.1 h.2.1 h.2.2.1 h.2.2.2 | exact h
      · refine wp_mono (head_2b F G Q0 h0 h4 h5 hd hl hc) ?_
        intro e a' w' h
        cases e <;> first | exact fin _ a' w' (by omega) (by rw [hd3_some hl (d := 49) rfl]; exact if_neg hc) h.1 h.2.1 h.2.2.1 h.2.2.2 | exact h
    · refine wp_mono (head_2c F G Q0 h0 h4 h5 hd hl) ?_
      intro e a' w' h
      cases e <;> first | exact fin _ a' w' (by omega) (hd3_none hl) h.1 h.2.1 h.2.2.1 h.2.2.2 | exact h
  · exact head_exit F G Q0 _ h0 h4 h5 (fun a' hk => hexit a' w hk (by rw [← hrel]; exact hd) hch)
end Go.Proofs.YtpjbfdpblgjmfaaGreatDoor

namespace Go.Proofs.YtpjbfdpblgjmfaaGreatDoor
open Go.RowKit

def dg0 (b cb t2 t3 : Nat) (r : Cd.Rd) : Dg := { b := b, cb := cb, t2 := t2, t3 := t3, r := r, sh := [], vo := .slice none 0 0, vh := .slice none 0 0, vf := .slice none 0 0, os := [], hs := [], fs := [], D := fun _ => False, X := fun _ => False, Y := fun _ => False }
theorem dm_start {w0 W : World} {s : List UInt8} {b cb t2 t3 : Nat} {r : Cd.Rd} (hch : Ch (fun _ => False) w0 W) (o1 : w0.heap.size ≤ t2) (o2 : t2 < t3) (o3 : t3 < b) (o4 : b < cb) (hr : RdM W b s r) (hp : r.pos ≤ 4000003)
    (hc : W.heap[cb]? = some (.cells #[.string ⟨#[]⟩, .slice none 0 0, .slice none 0 0, .slice none 0 0] 38 (0, 0))) (h2 : W.heap[t2]? = some (.cells #[.string ⟨#[]⟩, .slice none 0 0, .slice none 0 0, .slice none 0 0] 38 (0, 0))) (h3 : W.heap[t3]? = some (.cells #[.int .i64 0, .int .i64 0] 25 (0, 0))) :
    Dm w0 s (dg0 b cb t2 t3 r) W := by
  have hcl : cb < W.heap.size := (Array.getElem?_eq_some_iff.1 hc).1
  have key : ∀ i k, (dg0 b cb t2 t3 r).O i k → (i = 0 ∧ k = b) ∨ (i = 1 ∧ k = cb) ∨ (i = 8 ∧ k = t2) ∨ (i = 9 ∧ k = t3) := fun i k hk => by
    unfold Dg.O at hk
    split at hk
    · exact .inl ⟨rfl, hk⟩
    · exact .inr (.inl ⟨rfl, hk⟩)
    · cases hk
    · cases hk
    · cases hk
    · exact hk.elim
    · exact hk.elim
    · exact hk.elim
    · exact .inr (.inr (.inl ⟨rfl, hk⟩))
    · exact .inr (.inr (.inr ⟨rfl, hk⟩))
    · exact hk.elim
  refine ⟨⟨fun i k hk => ?_, fun i j k h1 h2 => ?_, fun i k hk => ?_, hch⟩, hr, hp, hc, World.ownsRow_nil _ _ _ _, World.ownsRow_nil _ _ _ _, World.ownsRow_nil _ _ _ _, fun x hx => ?_, fun x hx => ?_, h2, h3⟩
  · have := key i k hk; omega
  · have := key i k h1; have := key j k h2; omega
  · have := key i k hk; omega
  · have hx2 : x ∈ ([] : List (Value × Cd.Han)) := hx
    simp at hx2
  · have hx2 : x ∈ ([] : List (Value × Cd.Fun)) := hx
    simp at hx2
theorem Dm.shape {w0 w : World} {s : List UInt8} {g : Dg} (h : Dm w0 s g w) (sh : List UInt8) : Dm w0 s { g with sh := sh } (w.setCell ⟨g.cb, 0, none⟩ (.string ⟨sh.toArray⟩)) := by
  have hc : Ch (g.O 1) w (w.setCell ⟨g.cb, 0, none⟩ (.string ⟨sh.toArray⟩)) := Ch.setCell _ _ _ rfl
  have hR := h.rest 1 hc
  refine ⟨(h.own.step 1 hc (fun k hk => .inl hk) (fun k hk => Nat.lt_of_lt_of_le (h.own.lt 1 k hk) hc.size)).as (fun i k hk => ?_), (hR.s 0 (by omega) _ rfl).trans h.rd, h.pos, ?_, ownsRow_keep h.ro (hR.s 2 (by omega)), ownsRow_keep h.rh (hR.s 3 (by omega)), ownsRow_keep h.rf (hR.s 4 (by omega)),
    fun x hx => ⟨ownsRow_keep (h.hd x hx).1 (fun k hk => hR.s 5 (by omega) k ((h.hd x hx).2 k hk)), (h.hd x hx).2⟩, fun x hx => ⟨ownsRow_keep (h.fd x hx).1 (fun k hk => hR.s 5 (by omega) k ((h.fd x hx).2 k hk)), (h.fd x hx).2⟩, (hR.s 8 (by omega) _ rfl).trans h.c2, (hR.s 9 (by omega) _ rfl).trans h.c3⟩
  · by_cases e : i = 1
    · subst e; rw [upd_same]; exact hk
    · rw [upd_other _ _ e]
      have : Dg.O { g with sh := sh } i = Dg.O g i := by unfold Dg.O; split <;> rfl
      rw [this] at hk
      exact hk
  · rw [blk_set h.c]
    rfl

theorem cells_at {α : Type} (C : α → List Value) (z : Nat) (hC : ∀ x, (C x).length = z) : ∀ (l : List α) (i j : Nat) (x : α), l[i]? = some x → j < z → (l.flatMap C)[i * z + j]? = (C x)[j]? := by
  intro l
  induction l with
  | nil => intro i j x h; simp at h
  | cons a l ih =>
    intro i j x h hj
    rw [List.flatMap_cons]
    cases i with
    | zero =>
      obtain rfl : a = x := by simpa using h
      rw [Nat.zero_mul, Nat.zero_add, List.getElem?_append_left (by rw [hC]; exact hj)]
    | succ i =>
      rw [List.getElem?_append_right (by rw [hC, Nat.succ_mul]; omega), hC]
      have := ih i j x (by simpa using h) hj
      rw [← this]
      congr 1
      rw [Nat.succ_mul]
      omega
theorem ints_row {w : World} {u : Value} {l : List Int} (h : w.ownsRow 0 3 1 u l.length (l.map (Value.int .i64))) : IntsM w u l := by
  obtain ⟨a, c, rfl, ha, hc⟩ := row_slice h
  refine ⟨a, c, rfl, hc, fun hne => ?_⟩
  obtain ⟨g, rfl⟩ : ∃ g, a = some ⟨g, 0, none⟩ := by
    rcases ha with e | e
    · exact absurd (List.length_eq_zero_iff.1 e) hne
    · exact e
  refine ⟨g, 0, rfl, fun i x hx => ?_⟩
  rw [Nat.zero_add]
  exact row_cell h i _ (by rw [List.getElem?_map, hx]; rfl)
theorem inss_row {w : World} {u : Value} {l : List Cd.Ins} (h : w.ownsRow 0 123 4 u l.length (l.flatMap insC)) : InssM w u l := by
  obtain ⟨a, c, rfl, ha, hc⟩ := row_slice h
  refine ⟨a, c, rfl, hc, fun hne => ?_⟩
  obtain ⟨g, rfl⟩ : ∃ g, a = some ⟨g, 0, none⟩ := by
    rcases ha with e | e
    · exact absurd (List.length_eq_zero_iff.1 e) hne
    · exact e
  refine ⟨g, 0, rfl, fun i x hx => ?_⟩
  have k := fun j u (hj : j < 4) (hu : (insC x)[j]? = some u) => row_cell h (i * 4 + j) u ((cells_at insC 4 (fun _ => rfl) l i j x hx hj).trans hu)
  simp only [Nat.zero_add]
  exact ⟨k 0 _ (by omega) rfl, k 1 _ (by omega) rfl, k 2 _ (by omega) rfl, k 3 _ (by omega) rfl⟩
theorem ops_row {w : World} {u : Value} {l : List Cd.Op} (h : w.ownsRow 0 119 2 u l.length (l.flatMap opC)) : OpsM w u l := by
  obtain ⟨a, c, rfl, ha, hc⟩ := row_slice h
  refine ⟨a, c, rfl, hc, fun hne => ?_⟩
  obtain ⟨g, rfl⟩ : ∃ g, a = some ⟨g, 0, none⟩ := by
    rcases ha with e | e
    · exact absurd (List.length_eq_zero_iff.1 e) hne
    · exact e
  refine ⟨g, 0, rfl, fun i x hx => ?_⟩
  have k := fun j u (hj : j < 2) (hu : (opC x)[j]? = some u) => row_cell h (i * 2 + j) u ((cells_at opC 2 (fun _ => rfl) l i j x hx hj).trans hu)
  simp only [Nat.zero_add]
  exact ⟨k 0 _ (by omega) rfl, k 1 _ (by omega) rfl⟩
theorem hans_row {w : World} {u : Value} {l : List (Value × Cd.Han)} (h : w.ownsRow 0 121 2 u l.length (l.flatMap hanC)) (hd : ∀ x ∈ l, w.ownsRow 0 3 1 x.1 x.2.ops.length (x.2.ops.map (Value.int .i64))) : HansM w u (l.map Prod.snd) := by
  obtain ⟨a, c, rfl, ha, hc⟩ := row_slice h
  refine ⟨a, c, by simp, by simpa using hc, fun hne => ?_⟩
  obtain ⟨g, rfl⟩ : ∃ g, a = some ⟨g, 0, none⟩ := by
    rcases ha with e | e
    · exact absurd (by rw [List.length_eq_zero_iff.1 e]; rfl) hne
    · exact e
  refine ⟨g, 0, rfl, fun i x hx => ?_⟩
  rw [List.getElem?_map] at hx
  obtain ⟨y, hy, rfl⟩ := Option.map_eq_some_iff.1 hx
  have k := fun j u (hj : j < 2) (hu : (hanC y)[j]? = some u) => row_cell h (i * 2 + j) u ((cells_at hanC 2 (fun _ => rfl) l i j y hy hj).trans hu)
  simp only [Nat.zero_add]
  exact ⟨k 0 _ (by omega) rfl, y.1, k 1 _ (by omega) rfl, ints_row (hd y (List.mem_of_getElem? hy))⟩
theorem funs_row {w : World} {u : Value} {l : List (Value × Cd.Fun)} (h : w.ownsRow 0 85 3 u l.length (l.flatMap funC)) (hd : ∀ x ∈ l, w.ownsRow 0 123 4 x.1 x.2.ins.length (x.2.ins.flatMap insC)) : FunsM w u (l.map Prod.snd) := by
  obtain ⟨a, c, rfl, ha, hc⟩ := row_slice h
  refine ⟨a, c, by simp, by simpa using hc, fun hne => ?_⟩
  obtain ⟨g, rfl⟩ : ∃ g, a = some ⟨g, 0, none⟩ := by
    rcases ha with e | e
    · exact absurd (by rw [List.length_eq_zero_iff.1 e]; rfl) hne
    · exact e
  refine ⟨g, 0, rfl, fun i x hx => ?_⟩
  rw [List.getElem?_map] at hx
  obtain ⟨y, hy, rfl⟩ := Option.map_eq_some_iff.1 hx
  have k := fun j u (hj : j < 3) (hu : (funC y)[j]? = some u) => row_cell h (i * 3 + j) u ((cells_at funC 3 (fun _ => rfl) l i j y hy hj).trans hu)
  simp only [Nat.zero_add]
  exact ⟨k 0 _ (by omega) rfl, k 1 _ (by omega) rfl, y.1, k 2 _ (by omega) rfl, inss_row (hd y (List.mem_of_getElem? hy))⟩
/-- The code that was made, where the results' blocks alone were turned. -/
theorem Dm.code {w0 w w' : World} {s : List UInt8} {g : Dg} (h : Dm w0 s g w) (hc : Ch (fun k => k = g.t2 ∨ k = g.t3) w w') : CodeM w' g.vo g.vh g.vf ⟨g.sh, g.os, g.hs.map Prod.snd, g.fs.map Prod.snd⟩ := by
  have hs : ∀ j, j < 8 → ∀ k, g.O j k → w'.heap[k]? = w.heap[k]? := fun j hj k hk => hc.same k (h.own.lt j k hk) (fun e => by
    rcases e with e | e
    · have := h.own.dj j 8 k hk e; omega
    · have := h.own.dj j 9 k hk e; omega)
  exact ⟨ops_row (ownsRow_keep h.ro (hs 2 (by omega))), hans_row (ownsRow_keep h.rh (hs 3 (by omega))) (fun x hx => ownsRow_keep (h.hd x hx).1 (fun k hk => hs 5 (by omega) k ((h.hd x hx).2 k hk))), funs_row (ownsRow_keep h.rf (hs 4 (by omega))) (fun x hx => ownsRow_keep (h.fd x hx).1 (fun k hk => hs 5 (by omega) k ((h.fd x hx).2 k hk)))⟩
theorem code_nil (w : World) : CodeM w (.slice none 0 0) (.slice none 0 0) (.slice none 0 0) ⟨[], [], [], []⟩ :=
  ⟨⟨none, 0, rfl, Nat.le_refl _, fun h => absurd rfl h⟩, ⟨none, 0, rfl, Nat.le_refl _, fun h => absurd rfl h⟩, ⟨none, 0, rfl, Nat.le_refl _, fun h => absurd rfl h⟩⟩
theorem head_pos (s : List UInt8) : ∀ (n : Nat) (r : Cd.Rd), (Cd.Rd.head s n r).pos = r.pos := by
  intro n
  induction n with
  | zero => intro r; rfl
  | succ n ih =>
    intro r
    rw [head_succ, ih]
    unfold hd3
    split
    · exact no_pos _ _ _
    · split
      · rfl
      · exact no_pos _ _ _
    · rfl
end Go.Proofs.YtpjbfdpblgjmfaaGreatDoor
