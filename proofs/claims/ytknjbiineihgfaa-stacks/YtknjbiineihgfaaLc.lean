/-
  The law's piece.
-/
import Derived.Test.YtknjbiineihgfaaLb
set_option linter.unusedVariables false
set_option linter.unusedSimpArgs false
namespace Go.Proofs.Ytknjbiineihgfaa
open Go.RowKit

theorem same_rows {w : World} {A : List (Int × Int)} (hA : A.length < 1000000000) {va vb : Value} (ha : w.ownsRow 0 52 2 va A.length (pairCells A)) (hb : w.ownsRow 0 52 2 vb A.length (pairCells A)) :
    Calls Try.prog 35 #[va, vb] w fun e w' => e = .returned (.bool true) ∧ Same w w' := same_pairs w va vb A ha hb hA

set_option maxHeartbeats 8000000 in
theorem piece_any (w : World) (b : Nat) (T : List Sg) (hT : Tells w b T 39 40 41 42) (q : Value) (M : List Rn) (hM : RsM w q M) (hM0 : 0 < M.length) (hMT : M.map Rn.s = T) (hl : ∀ r ∈ M, r.s.l.length < 1000000000) :
    Calls Try.prog 26 #[.pointer (some ⟨b, 0, none⟩), q] w fun e w' => e = .returned (.bool true) ∧ Ch (fun _ => False) w w' := by
  obtain ⟨g, cap, rfl, hR⟩ := RdS.of hM hM0
  have htl := hT.tl
  have hfl := hT.fl
  have hft : (flatT 0 T).length < 1000000000 := Nat.lt_of_le_of_lt (flatT_len _ 0) (by omega)
  have hMl : T.length = M.length := by rw [← hMT]; simp
  have hflat := flat_any w g cap M hR (by omega) hl (by rw [hMT]; exact hfl) (by rw [hMT]; exact hft)
  rw [hMT] at hflat
  have hlen := hT.len
  have hseg := hT.seg
  have hall := hT.all
  have htags := hT.tags
  rw [hMl] at hseg
  obtain ⟨FA, hFA⟩ : ∃ FA, flatF 0 T = FA := ⟨_, rfl⟩
  obtain ⟨FB, hFB⟩ : ∃ FB, flatT 0 T = FB := ⟨_, rfl⟩
  rw [hFA] at hfl hflat hlen hall
  rw [hFB] at hft hflat htags
  clear hMT hMl hFA hFB hT hR hM
  replace hlen := hid hlen
  replace hseg := hid hseg
  replace hall := hid hall
  replace htags := hid htags
  go_enter Try.func26, Try.ntmps26
  go_upto_region 2 with (go_at_call 19; refine hflat.mono ?_; clear hflat; rintro e W1 ⟨va, vb, rfl, hF⟩; dsimp only)
  obtain ⟨aa, ca, rfl, _⟩ := row_slice hF.ra
  obtain ⟨ab, cb, rfl, _⟩ := row_slice hF.rb
  have hc1 := hF.ch
  have hra := hF.ra
  have hrb := hF.rb
  clear hF
  go_wp2_with (first
    | (go_at_call 39; refine (hlen.out _ hc1).mono ?_; clear hlen; rintro e W1 ⟨rfl, rfl⟩; dsimp only)
    | (go_at_call 40; refine (hseg.out _ hc1).mono ?_; clear hseg; rintro e W1 ⟨rfl, rfl⟩; dsimp only)
    | (go_at_call 41; refine (hall.out _ hc1).mono ?_; clear hall; rintro e W2 ⟨B, rfl, hcA, hlA⟩; dsimp only)
    | (go_at_call 36; refine hlA.mono ?_; clear hlA; rintro e W3 ⟨v3, rfl, hv3, hc3, hc13⟩; dsimp only)
    | (go_at_call 35; refine (same_rows hfl hv3 (ownsRow_keep hra (fun k hk => hc13.same k (ownsRow_lt hra hk) (fun h => h)))).mono ?_; clear hv3 hra; rintro e W4 ⟨rfl, hs4⟩; dsimp only)
    | (go_at_call 42; refine (htags.out _ (hc3.trans (hs4.ch (fun _ => False)) (fun _ h => h.elim))).mono ?_; clear htags; rintro e W5 ⟨B5, rfl, hcT, hlT⟩; dsimp only)
    | (go_at_call 36; refine hlT.mono ?_; clear hlT; rintro e W6 ⟨v6, rfl, hv6, hc6, hc46⟩; dsimp only)
    | (go_at_call 35; refine (same_rows hft hv6 (ownsRow_keep hrb (fun k hk => ((hc13.trans (hs4.ch (fun _ => False)) (fun _ h => h.elim)).trans hc46 (fun _ h => h.elim)).same k (ownsRow_lt hrb hk) (fun h => h)))).mono ?_; rintro e W7 ⟨rfl, hs7⟩; dsimp only))
  go_ret
  exact ⟨rfl, hc6.trans (hs7.ch (fun _ => False)) (fun _ h => h.elim)⟩
end Go.Proofs.Ytknjbiineihgfaa
