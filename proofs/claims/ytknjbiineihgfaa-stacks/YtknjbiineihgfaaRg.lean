/-
  The document's Flat.
-/
import Derived.Test.YtknjbiineihgfaaRf
import Derived.Test.YtknjbiineihgfaaSl
set_option linter.unusedVariables false
set_option linter.unusedSimpArgs false
namespace Go.Proofs.Ytknjbiineihgfaa
open Go.RowKit

/-- Two rows of pairs, new and apart. -/
structure FlIn (w wr : World) (va vb : Value) (A B : List (Int × Int)) : Prop where
  ra : wr.ownsRow 0 52 2 va A.length (pairCells A)
  rb : wr.ownsRow 0 52 2 vb B.length (pairCells B)
  na : ∀ k, va.ownBlock = some k → w.heap.size ≤ k
  nb : ∀ k, vb.ownBlock = some k → w.heap.size ≤ k
  ab : ∀ k, va.ownBlock = some k → vb.ownBlock ≠ some k
  ch : Ch (fun _ => False) w wr
theorem FlIn.swap {w wr : World} {va vb : Value} {A B : List (Int × Int)} (h : FlIn w wr va vb A B) : FlIn w wr vb va B A := ⟨h.rb, h.ra, h.nb, h.na, fun k hk e => h.ab k e hk, h.ch⟩
theorem FlIn.push {w wr wa w1 : World} {va vb v' : Value} {A B : List (Int × Int)} {x : Int × Int} (h : FlIn w wr va vb A B) (hca : Ch (fun _ => False) wr wa) (hrow : w1.ownsRow 0 52 2 v' (A.length + 1) (pairCells A ++ [.int .i64 x.1, .int .i64 x.2])) (hg : wa.grownBy w1 va.ownBlock) (hb : v'.ownBlock = va.ownBlock ∨ v'.ownBlock = some wa.heap.size) : FlIn w w1 v' vb (A ++ [x]) B := by
  have hc := app_ch hca hg
  have hm := app_more hca hb
  have e6 : pairCells (A ++ [x]) = pairCells A ++ [.int .i64 x.1, .int .i64 x.2] := by simp [pairCells]
  refine ⟨by rw [e6, List.length_append]; exact hrow, ownsRow_keep h.rb (fun k hk => hc.same k (ownsRow_lt h.rb hk) (fun e => h.ab k e hk)), fun k hk => ?_, h.nb, fun k hk e => ?_, h.ch.trans hc (fun k hk => .inr (h.na k hk))⟩
  · rcases hm k hk with e | e
    · exact h.na k e
    · have := h.ch.size; omega
  · rcases hm k hk with e2 | e2
    · exact h.ab k e2 e
    · have := ownsRow_lt h.rb e; omega
theorem pair_new (w : World) (x : Int × Int) : ∀ j u, ([.int .i64 x.1, .int .i64 x.2] : List Value)[j]? = some u → (w.alloc (.cells #[.int .i64 x.1, .int .i64 x.2] 52)).cell? ((⟨w.heap.size, 0, none⟩ : Addr).add j) = some u := by
  intro j u hj
  have hb := World.alloc_heap_new w (.cells #[.int .i64 x.1, .int .i64 x.2] 52)
  rw [add_cell]
  simp only [World.cell?, hb]
  simpa using hj

set_option maxHeartbeats 8000000 in
theorem flat_any (w : World) (g cap : Nat) (L : List Rn) (hR : RdS w g 0 L) (hL : L.length < 100000000) (hl : ∀ r ∈ L, r.s.l.length < 1000000000) (hF : (flatF 0 (L.map Rn.s)).length < 1000000000) (hT : (flatT 0 (L.map Rn.s)).length < 1000000000) :
    Calls Try.prog 19 #[.slice (some ⟨g, 0, none⟩) L.length cap] w fun e w' => ∃ va vb, e = .returned (.tuple #[va, vb]) ∧ FlIn w w' va vb (flatF 0 (L.map Rn.s)) (flatT 0 (L.map Rn.s)) := by
  obtain ⟨T, hTd⟩ : ∃ T, L.map Rn.s = T := ⟨_, rfl⟩
  rw [hTd] at hF hT ⊢
  go_enter Try.func19, Try.ntmps19
  go_wp2
  go_loopw [4, 5, 6] (fun va vb i wr => ∃ m : Nat, i = .int .i64 m ∧ m ≤ L.length ∧ Hid (FlIn w wr va vb (flatF 0 (T.take m)) (flatT 0 (T.take m)))) (fun _ _ i _ => L.length - (intOf i).toNat)
  case atStart => exact ⟨0, rfl, Nat.zero_le _, ⟨⟨rfl, .inl ⟨rfl, rfl⟩⟩, ⟨rfl, .inl ⟨rfl, rfl⟩⟩, fun k e => (by cases e), fun k e => (by cases e), fun k e => (by cases e), Ch.refl _ _⟩⟩
  case round =>
    obtain ⟨m, rfl, hm, HI⟩ := hrel
    by_cases e : m = L.length
    · subst e
      have HI2 := HI.out
      rw [List.take_of_length_le (by rw [← hTd]; simp)] at HI2
      go_wp2
      refine bodyPost_ret (v := .tuple #[u4, u5]) (by simp [results, Try.results19, go_sem]) rfl ?_
      exact ⟨u4, u5, rfl, HI2⟩
    · have hlt : m < L.length := by omega
      obtain ⟨r, hr⟩ : ∃ r, L[m]? = some r := ⟨L[m], by simp⟩
      have hTm : T[m]? = some r.s := by rw [← hTd, List.getElem?_map, hr]; rfl
      obtain ⟨hfF, hfF2⟩ := flatF_at hTm
      obtain ⟨hfT, hfT2⟩ := flatT_at hTm
      have hlF : (flatF 0 (T.take m)).length + r.s.l.length ≤ (flatF 0 T).length := by rw [hfF]; simp
      have hlT : (flatT 0 (T.take m)).length + (if r.s.has then 1 else 0) ≤ (flatT 0 T).length := by rw [hfT]; split <;> simp
      obtain ⟨FA, hFA⟩ : ∃ FA, flatF 0 (T.take m) = FA := ⟨_, rfl⟩
      obtain ⟨FB, hFB⟩ : ∃ FB, flatT 0 (T.take m) = FB := ⟨_, rfl⟩
      rw [hFA] at HI hfF2 hlF
      rw [hFB] at HI hfT2 hlT
      clear hfF hfT
      replace hfF2 := hid hfF2
      replace hfT2 := hid hfT2
      replace hTd := hid hTd
      clear hFA hFB hTm
      have hcond : (m : Int) < (L.length : Int) := by omega
      have hi0 : (0 : Int) ≤ (m : Int) := by omega
      have hw : IntKind.i64.wrap ((m : Int) + 1) = (m : Int) + 1 := IntWalk.i64_in _ (by omega)
      go_wp2
      go_loopw [4, 7] (fun va j wq => ∃ n : Nat, j = .int .i64 n ∧ n ≤ r.s.l.length ∧ Hid (FlIn w wq va u5 (FA ++ (r.s.l.take n).map (fun f => ((m : Int), f))) FB)) (fun _ j _ => r.s.l.length - (intOf j).toNat)
      case atStart => exact ⟨0, rfl, Nat.zero_le _, by simpa using HI⟩
      case round =>
        obtain ⟨n, rfl, hn, HJ⟩ := hrel
        have hRr := hR.same HJ.out.ch
        obtain ⟨d0, d1, d2⟩ := hRr.cs m r hr
        simp only [Nat.zero_add] at d0 d1 d2
        have hru := hRr.us r (List.mem_of_getElem? hr)
        obtain ⟨ar, cr, hur, har, _⟩ := row_slice hru
        rw [hur] at d2
        by_cases en : n = r.s.l.length
        · subst en
          rw [List.take_length] at HJ
          cases hh : r.s.has with
          | false =>
            rw [hh] at d0
            have HI2 : Hid (FlIn w wr u4 u5 (flatF 0 (T.take (m + 1))) (flatT 0 (T.take (m + 1)))) := by
              rw [hfF2.out, hfT2.out, hh]; simpa using HJ
            clear HJ HI
            go_wp2
            go_roundw
            case rel => exact ⟨m + 1, by simp, by omega, HI2⟩
            case measure => simp [intOf]; omega
          | true =>
            rw [hh] at d0 hlT
            simp only [if_true] at hlT
            obtain ⟨ab, cb, hub, _⟩ := row_slice HJ.out.rb
            subst hub
            have hca : ∀ X, Ch (fun _ => False) wr (wr.alloc X) := fun X => (Ch.refl _ wr).al X
            have hr1 : (wr.alloc (.cells #[.int .i64 (m : Int), .int .i64 r.s.tag] 52)).ownsRow 0 52 2 (.slice ab FB.length cb) FB.length (pairCells FB) := ownsRow_keep HJ.out.rb (fun k hk => (hca _).same k (ownsRow_lt HJ.out.rb hk) (fun h => h))
            have hAc := pair_new wr ((m : Int), r.s.tag)
            dsimp only at hAc
            clear HI
            go_wp2_with (at_builtin; go_must (refine list_append rfl (.tmp 42) (.tmp 50) 44 rfl 52 (.agg #[.int .i64 0, .int .i64 0]) 2 16 Try.underlying44 Try.infoP rfl (by decide) (.slice ab FB.length cb) FB.length (pairCells FB) rfl hr1 ⟨wr.heap.size, 0, none⟩ 1 1 [.int .i64 (m : Int), .int .i64 r.s.tag] rfl rfl hAc (by simp [Value.oneCell']) (by unfold maxLen; omega) (by omega) ?_); intro v' w1 hrow1 hgrow hblk)
            have HI2 : Hid (FlIn w w1 u4 v' (flatF 0 (T.take (m + 1))) (flatT 0 (T.take (m + 1)))) := by
              rw [hfF2.out, hfT2.out, hh]
              exact hid (HJ.out.swap.push (x := ((m : Int), r.s.tag)) (hca _) hrow1 hgrow hblk).swap
            go_roundw
            case rel => exact ⟨m + 1, by simp, by omega, HI2⟩
            case measure => simp [intOf]; omega
        · have hnl : n < r.s.l.length := by omega
          obtain ⟨f, hf⟩ : ∃ f, r.s.l[n]? = some f := ⟨r.s.l[n], by simp⟩
          obtain ⟨gr, rfl⟩ : ∃ gr, ar = some ⟨gr, 0, none⟩ := by rcases har with h | ⟨gr, h⟩; omega; exact ⟨gr, h⟩
          rw [hur] at hru
          have df : wr.cell? ⟨gr, n, none⟩ = some (.int .i64 f) := row_cell hru n _ (by simp [hf])
          have hcond2 : (n : Int) < (r.s.l.length : Int) := by omega
          have hj0 : (0 : Int) ≤ (n : Int) := by omega
          have hw2 : IntKind.i64.wrap ((n : Int) + 1) = (n : Int) + 1 := IntWalk.i64_in _ (by have := hl r (List.mem_of_getElem? hr); omega)
          have ht2 := hid (take_at hf).2.1
          obtain ⟨aa, ca, haa, _⟩ := row_slice HJ.out.ra
          subst haa
          obtain ⟨A9, hA9⟩ : ∃ A9, FA ++ (r.s.l.take n).map (fun f => ((m : Int), f)) = A9 := ⟨_, rfl⟩
          have hA9l : A9.length ≤ FA.length + r.s.l.length := by rw [← hA9]; simp; omega
          rw [hA9] at HJ ⊢
          replace hA9 := hid hA9
          have hca : ∀ X, Ch (fun _ => False) wr (wr.alloc X) := fun X => (Ch.refl _ wr).al X
          have hr1 : (wr.alloc (.cells #[.int .i64 (m : Int), .int .i64 f] 52)).ownsRow 0 52 2 (.slice aa A9.length ca) A9.length (pairCells A9) := ownsRow_keep HJ.out.ra (fun k hk => (hca _).same k (ownsRow_lt HJ.out.ra hk) (fun h => h))
          have hAc := pair_new wr ((m : Int), f)
          dsimp only at hAc
          clear HI hru
          go_wp2_with (at_builtin; go_must (refine list_append rfl (.tmp 24) (.tmp 35) 44 rfl 52 (.agg #[.int .i64 0, .int .i64 0]) 2 16 Try.underlying44 Try.infoP rfl (by decide) (.slice aa A9.length ca) A9.length (pairCells A9) rfl hr1 ⟨wr.heap.size, 0, none⟩ 1 1 [.int .i64 (m : Int), .int .i64 f] rfl rfl hAc (by simp [Value.oneCell']) (by unfold maxLen; omega) (by omega) ?_); intro v' w1 hrow1 hgrow hblk)
          go_roundw
          case rel =>
            refine ⟨n + 1, by simp, by omega, ?_⟩
            have := HJ.out.push (x := ((m : Int), f)) (hca _) hrow1 hgrow hblk
            rw [← hA9.out] at this
            rw [ht2.out]
            exact hid (by simpa using this)
          case measure => simp [intOf]; omega
end Go.Proofs.Ytknjbiineihgfaa
