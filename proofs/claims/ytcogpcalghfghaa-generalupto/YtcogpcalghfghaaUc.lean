/-
  The program's bagOf.
-/
import Derived.Test.YtcogpcalghfghaaMUa
set_option linter.unusedVariables false
set_option linter.unusedSimpArgs false
namespace Go.Proofs.Ytcogpcalghfghaa
open Go.RowKit Go.Shelf
open Un (Bag bagL addS)

/-- slices.Sort of names in a row of one's own. -/
def SortOK : Prop := ∀ (w : World) (v : Value) (l : List (List UInt8)), w.ownsRow 0 9 1 v l.length (strs l) → l.length < 1000000000 →
  Calls Try.prog 46 #[v] w fun e w' => e = .returned (.tuple #[]) ∧ w'.ownsRow 0 9 1 v l.length (strs (l.mergeSort fun x y => decide (x ≤ y))) ∧ Ch (fun k => v.ownBlock = some k) w w'

set_option maxHeartbeats 1000000 in
theorem Values_any (w : World) (a : Option Addr) (n c : Nat) :
    Calls Try.prog 36 #[.slice a n c] w fun e w' => e = .returned (.func (.func 47) #[] #[.pointer (some ⟨w.heap.size, 0, none⟩)]) ∧ w' = w.alloc (.cells #[.slice a n c] 24) := by
  go_enter Try.func36, Try.ntmps36
  go_wp2
  go_ret
  exact ⟨rfl, rfl⟩
set_option maxHeartbeats 1000000 in
theorem Collect_any (w : World) (gf : Nat) (lb : Array Value) (xs : List (List UInt8)) (D : Nat → Prop) (eg : ∀ args w, (callFunc gf args).run Try.prog w = .ok (.enter gf args) w) (hseq : ∀ W1, Ch (fun _ => False) w W1 → Goes Try.prog gf #[] lb (fun s : List UInt8 => #[str s]) xs D W1) (hD : ∀ k, D k → k < w.heap.size) (hxs : xs.length < 1000000000) :
    Calls Try.prog 45 #[.func (.func gf) #[] lb] w fun e w' => ∃ v, e = .returned v ∧ Fresh w w' v xs := by
  have HA := appendSeq_any w gf lb xs D eg hseq hD hxs
  go_enter Try.func45, Try.ntmps45
  go_wp2_with (go_at_call 55; refine HA.mono ?_; clear HA; rintro e w1 ⟨v, rfl, h1⟩)
  go_ret
  exact ⟨v, rfl, h1⟩
theorem sorted_same {l : List (List UInt8)} (h : Un.Srt l) : (l.mergeSort fun x y => decide (x ≤ y)) = l :=
  List.mergeSort_of_pairwise (by
    unfold Un.Srt at h
    exact h.imp (fun h1 => by simpa using h1))
set_option maxHeartbeats 1000000 in
theorem Sorted_any (hS : SortOK) (w : World) (gf : Nat) (lb : Array Value) (xs : List (List UInt8)) (D : Nat → Prop) (eg : ∀ args w, (callFunc gf args).run Try.prog w = .ok (.enter gf args) w) (hseq : ∀ W1, Ch (fun _ => False) w W1 → Goes Try.prog gf #[] lb (fun s : List UInt8 => #[str s]) xs D W1) (hD : ∀ k, D k → k < w.heap.size) (hxs : xs.length < 1000000000) (hs : Un.Srt xs) :
    Calls Try.prog 35 #[.func (.func gf) #[] lb] w fun e w' => ∃ v, e = .returned v ∧ Fresh w w' v xs := by
  have HC := Collect_any w gf lb xs D eg hseq hD hxs
  replace hs := hid hs
  go_enter Try.func35, Try.ntmps35
  go_upto_region 2 with (go_at_call 45; refine HC.mono ?_; clear HC; rintro e w1 ⟨v, rfl, h1⟩; replace h1 := hid h1)
  have HS := hS w1 v xs h1.out.1 hxs
  go_wp2_with (go_at_call 46; refine HS.mono ?_; clear HS; rintro e w2 ⟨rfl, h2, h3⟩; replace h2 := hid h2; replace h3 := hid h3)
  go_ret
  have h2' := h2.out
  rw [sorted_same hs.out] at h2'
  exact ⟨v, rfl, h2', h1.out.2.1.trans h3.out (fun k hk => .inr (h1.out.2.2 k hk)), h1.out.2.2⟩
theorem BagF.last {w w' : World} {v : Value} {b : Bag} {p : Un.Nm × Nat} (h : BagF w w' v b) (hp : b.getLast? = some p) : ∃ g c, v = .slice (some ⟨g, 0, none⟩) b.length c ∧ w'.cell? ⟨g, (b.length - 1) * 2, none⟩ = some (str p.1) ∧ w'.cell? ⟨g, (b.length - 1) * 2 + 1, none⟩ = some (.int .i64 (p.2 : Nat)) ∧ w'.frozen? ⟨g, (b.length - 1) * 2 + 1, none⟩ = false ∧ 1 ≤ b.length := by
  have hb : b ≠ [] := fun e => by rw [e] at hp; cases hp
  have hl : 1 ≤ b.length := List.length_pos_iff.2 hb
  obtain ⟨a, c, rfl, h1, h2⟩ := row_slice h.1
  rcases h1 with h1 | ⟨g, rfl⟩
  · omega
  · have hi : b[b.length - 1]? = some p := by rw [← List.getLast?_eq_getElem?]; exact hp
    obtain ⟨e1, e2⟩ := shC_at hi
    exact ⟨g, c, rfl, row_cell h.1 _ _ e1, row_cell h.1 _ _ e2, own_frozen h.1 _, hl⟩
theorem BagF.inc {w w' : World} {b : Bag} {p : Un.Nm × Nat} {g c : Nat} (h : BagF w w' (.slice (some ⟨g, 0, none⟩) b.length c) b) (hp : b.getLast? = some p) (n : Nat) : BagF w (w'.setCell ⟨g, (b.length - 1) * 2 + 1, none⟩ (.int .i64 (n : Nat))) (.slice (some ⟨g, 0, none⟩) b.length c) (b.dropLast ++ [(p.1, n)]) := by
  have hd := Un.last_snoc hp
  have hb : b ≠ [] := fun e => by rw [e] at hp; cases hp
  have hl : 1 ≤ b.length := List.length_pos_iff.2 hb
  have hlen : (b.dropLast ++ [(p.1, n)]).length = b.length := by
    have := congrArg List.length hd
    simp at this ⊢
    omega
  have hdl : b.dropLast.length = b.length - 1 := by simp
  refine ⟨?_, h.2.1.trans (Ch.setCell (O := fun k => k = g) w' _ _ rfl) (fun k hk => .inr (by subst hk; exact h.2.2 k rfl)), h.2.2⟩
  rw [hlen]
  have h1 := own_set h.1 ((b.length - 1) * 2 + 1) (.int .i64 (n : Nat)) (by rw [shC_len]; omega)
  have e : (shC b).set ((b.length - 1) * 2 + 1) (.int .i64 (n : Nat)) = shC (b.dropLast ++ [(p.1, n)]) := by
    conv => lhs; rw [hd]
    rw [shC_snoc, shC_snoc]
    have hl2 : (shC b.dropLast).length = (b.length - 1) * 2 := by rw [shC_len, hdl]
    rw [List.length_append, hdl]
    simp only [List.length_singleton]
    rw [show (b.length - 1 + 1 - 1) * 2 + 1 = (shC b.dropLast).length + 1 by rw [hl2]; omega]
    rw [List.set_append_right _ _ (by omega)]
    simp
  rw [e] at h1
  exact h1

set_option maxRecDepth 100000 in
set_option maxHeartbeats 4000000 in
theorem bagOf_any (hS : SortOK) (w : World) (v : Value) (o : List (List UInt8)) (hv : OpsV w v o) (hs : Un.Srt o) (hn : o.length < 1000000) :
    Calls Try.prog 25 #[v] w fun e w' => ∃ v', e = .returned v' ∧ BagF w w' v' (bagL o) := by
  obtain ⟨a, c, rfl, _⟩ := id hv
  have HV := Values_any w a o.length c
  have hvA : Hid (OpsV (w.alloc (.cells #[.slice a o.length c] 24)) (.slice a o.length c) o) := hv.carry (fun k hk => (al_ch w _).same k hk (fun h => h))
  have hcell : Hid ((w.alloc (.cells #[.slice a o.length c] 24)).cell? ⟨w.heap.size, 0, none⟩ = some (.slice a o.length c)) := by
    unfold Hid World.cell?
    rw [World.alloc_heap_new]
    rfl
  have hseq : ∀ W1, Ch (fun _ => False) (w.alloc (.cells #[.slice a o.length c] 24)) W1 → Goes Try.prog 47 #[] #[.pointer (some ⟨w.heap.size, 0, none⟩)] (fun s : List UInt8 => #[str s]) o (fun k => k = w.heap.size ∨ (o ≠ [] ∧ NmB (.slice a o.length c) k)) W1 := fun W1 h1 =>
    values_goes W1 w.heap.size (.slice a o.length c) o (cell_ch h1 hcell.out (fun h => h)) (hvA.out.carry (fun k hk => h1.same k hk (fun h => h))) (by omega)
  have hD : ∀ k, (k = w.heap.size ∨ (o ≠ [] ∧ NmB (.slice a o.length c) k)) → k < (w.alloc (.cells #[.slice a o.length c] 24)).heap.size := by
    rintro k (rfl | ⟨h1, h2⟩)
    · simp
    · obtain ⟨g, q, rfl, hx⟩ := hvA.out.cells h1
      have h3 : g = k := Option.some.inj h2
      subst h3
      exact World.block_lt_of_cell? _ _ (hx 0 (List.length_pos_iff.2 h1))
  have HS := Sorted_any hS (w.alloc (.cells #[.slice a o.length c] 24)) 47 #[.pointer (some ⟨w.heap.size, 0, none⟩)] o _ (enters_of Try.func47 (by kernel_rfl) rfl) hseq hD (by omega) hs
  replace hv := hid hv
  clear hseq hD
  go_enter Try.func25, Try.ntmps25
  go_upto_region 3 with (first
    | (go_at_call 36; refine HV.mono ?_; clear HV; rintro e w1 ⟨rfl, rfl⟩)
    | (go_at_call 35; refine HS.mono ?_; clear HS; rintro e w1 ⟨u, rfl, hF⟩; obtain ⟨ua, uc, hu, _⟩ := id hF.sv; subst hu; replace hF := hid hF))
  have hb0 : Hid (BagF w w1 (.slice none 0 0) (bagL (o.take 0))) := by
    have : o.take 0 = [] := by simp
    rw [this]
    exact (BagF.nil w).quiet ((al_ch w _).trans hF.out.2.1 (fun _ h => h.elim))
  clear hvA hcell
  go_loopg [3, 11] (o.length + 1) (fun q v3 v11 wr => ∃ i : Nat, v11 = .int .i64 (i : Nat) ∧ i ≤ o.length ∧ q = o.length + 1 - i ∧ Hid (BagF w wr v3 (bagL (o.take i))) ∧ Hid (SV wr (.slice ua o.length uc) o) ∧ Hid (∀ k, ua = some k → w.heap.size ≤ k.block) ∧ Hid (∀ k, v3.ownBlock = some k → (Value.slice ua o.length uc).ownBlock ≠ some k))
  case atStart => exact ⟨0, rfl, by omega, by omega, hb0, hF.out.sv, fun k hk => Nat.le_of_lt (by have := hF.out.2.2 k.block (by rw [hk]; rfl); simp at this; omega), fun k hk => by cases hk⟩
  case round =>
    clear hb0
    obtain ⟨i, rfl, hi, rfl, hB, hV, hua, hap⟩ := hrel
    obtain ⟨va, vc, hv3, _⟩ := row_slice hB.out.1
    subst hv3
    have hbl : Hid ((bagL (o.take i)).length ≤ i) := by
      have := Un.bagL_len (o.take i).length (o.take i) rfl
      simp at this
      unfold Hid
      omega
    by_cases e : i < o.length
    · have i0 : (0 : Int) ≤ i := by omega
      have i1 : (i : Int) < (o.length : Int) := by omega
      have hwi : IntKind.i64.wrap ((i : Int) + 1) = (i : Int) + 1 := IntWalk.i64_in _ (by omega)
      obtain ⟨x, hx⟩ : ∃ x, o[i]? = some x := ⟨o[i], by simp⟩
      obtain ⟨-, sg, sk, hsa⟩ := hV.out.some (by omega)
      subst hsa
      have cs := hV.out.at hx
      have hnext : bagL (o.take (i + 1)) = addS (bagL (o.take i)) x := by
        rw [List.take_add_one, hx]
        exact Un.bagL_snoc _ _
      replace hnext := hid hnext
      replace hx := hid hx
      have hblb := hbl.out
      generalize hbg : bagL (o.take i) = b at *
      replace hbg := hid hbg
      cases hlast : b.getLast? with
      | none =>
        have hb0 : b = [] := List.getLast?_eq_none_iff.1 hlast
        subst hb0
        have hBa := hid (hB.out.quiet (al_ch wr (.cells #[str x, .int .i64 1] 99)))
        have hrw := hBa.out.1
        go_wp2_with (at_builtin; go_must (refine list_append rfl (.tmp 37) (.tmp 40) 73 rfl 99 _ 2 24 Try.underlying73 Try.infoShare rfl (by decide) _ _ _ rfl hrw ⟨_, 0, none⟩ 1 1 [str x, .int .i64 1] rfl rfl (new_share wr x 1) (by simp [Value.oneCell']) (by unfold maxLen; simp) (by simp) ?_); intro v' w2 hrow hgrow hblk)
        have hadd : addS [] x = ([] : Bag) ++ [(x, 1)] := rfl
        have hc2 := hid ((al_ch wr (.cells #[str x, .int .i64 1] 99)).mono (O1 := fun k => (Value.slice va ([] : Bag).length vc).ownBlock = some k) (fun _ h => h.elim))
        have hB2 := hid (hBa.out.more (s := (x, 1)) hrow hgrow hblk)
        have hc3 := hid (hc2.out.trans (Ch.grown hgrow (fun k hk => hk)) (fun _ h => .inl h))
        go_roundg (o.length - i)
        case measure => omega
        case rel =>
          refine ⟨i + 1, by simp, by omega, by omega, ?_, hid (hV.out.keep hc3.out (fun k hk e => hap.out k e hk)), hua, fun k hk hk2 => ?_⟩
          · unfold Hid
            rw [hnext.out, hadd]
            exact hB2.out
          · rcases hblk with e2 | e2
            · exact hap.out k (e2.symm.trans hk) hk2
            · rw [e2] at hk
              have h5 := Option.some.inj hk
              obtain ⟨_, _, e6, h6 | ⟨g6, k6, e7, _, h6, _⟩⟩ := hV.out
              · simp only [Value.slice.injEq] at e6
                rw [h6.1] at e6
                cases e6.1
              · simp only [Value.slice.injEq] at e6
                rw [e7] at e6
                have h8 := h6.lt
                have h9 : sg = k := Option.some.inj hk2
                have h10 : sg = g6 := by have := Option.some.inj e6.1; simp at this; exact this.1
                simp at h5
                omega
      | some p =>
        obtain ⟨g, c3, hv3, d0, d1, d2, d3⟩ := hB.out.last hlast
        simp only [Value.slice.injEq] at hv3
        obtain ⟨rfl, _, rfl⟩ := hv3
        have hlz : IntKind.i64.wrap ((b.length : Int) - 1) = ((b.length - 1 : Nat) : Int) := by rw [IntWalk.i64_in _ (by omega)]; omega
        have hge : (0 : Int) ≤ ((b.length - 1 : Nat) : Int) := by omega
        have hlt : ((b.length - 1 : Nat) : Int) < (b.length : Int) := by omega
        obtain ⟨L, hL⟩ : ∃ L, b.length - 1 = L := ⟨_, rfl⟩
        rw [hL] at d0 d1 d2 hlz hge hlt
        by_cases hpx : p.1 = x
        · have heq : (p.1 == x) = true := by simpa using hpx
          have hadd : addS b x = b.dropLast ++ [(p.1, p.2 + 1)] := by unfold addS; rw [hlast]; simp only; rw [if_pos hpx]
          have hp2 : p.2 ≤ 1000000 := by
            have h1 := Un.mem_le_flat (List.mem_of_getLast? hlast)
            rw [← hbg.out, Un.bagL_flat_len (o.take i).length (o.take i) rfl] at h1
            simp at h1
            omega
          have hw2 : IntKind.i64.wrap ((p.2 : Int) + 1) = ((p.2 + 1 : Nat) : Int) := by rw [IntWalk.i64_in _ (by omega)]; omega
          have hB2 := hid (hB.out.inc hlast (p.2 + 1))
          rw [hL] at hB2
          have hsg : sg ≠ g := fun e2 => hap.out g rfl (by rw [e2]; rfl)
          go_wp2
          go_roundg (o.length - i)
          case measure => omega
          case rel =>
            refine ⟨i + 1, by simp, by omega, by omega, ?_, hid (hV.out.keep (Ch.setCell (O := fun k => k = g) wr _ _ rfl) (fun k hk e2 => hsg (by have h9 : sg = k := Option.some.inj hk; omega))), hua, hap.out⟩
            unfold Hid
            rw [hnext.out, hadd]
            exact hB2.out
        · have heq : (p.1 == x) = false := by simpa using hpx
          have hadd : addS b x = b ++ [(x, 1)] := by unfold addS; rw [hlast]; simp only; rw [if_neg hpx]
          have hBa := hid (hB.out.quiet (al_ch wr (.cells #[str x, .int .i64 1] 99)))
          have hrw := hBa.out.1
          go_wp2_with (at_builtin; go_must (refine list_append rfl (.tmp 37) (.tmp 40) 73 rfl 99 _ 2 24 Try.underlying73 Try.infoShare rfl (by decide) _ _ _ rfl hrw ⟨_, 0, none⟩ 1 1 [str x, .int .i64 1] rfl rfl (new_share wr x 1) (by simp [Value.oneCell']) (by unfold maxLen; omega) (by omega) ?_); intro v' w2 hrow hgrow hblk)
          have hc2 := hid ((al_ch wr (.cells #[str x, .int .i64 1] 99)).mono (O1 := fun k => (Value.slice (some ⟨g, 0, none⟩) b.length vc).ownBlock = some k) (fun _ h => h.elim))
          have hB2 := hid (hBa.out.more (s := (x, 1)) hrow hgrow hblk)
          have hc3 := hid (hc2.out.trans (Ch.grown hgrow (fun k hk => hk)) (fun _ h => .inl h))
          go_roundg (o.length - i)
          case measure => omega
          case rel =>
            refine ⟨i + 1, by simp, by omega, by omega, ?_, hid (hV.out.keep hc3.out (fun k hk e => hap.out k e hk)), hua, fun k hk hk2 => ?_⟩
            · unfold Hid
              rw [hnext.out, hadd]
              exact hB2.out
            · rcases hblk with e2 | e2
              · exact hap.out k (e2.symm.trans hk) hk2
              · rw [e2] at hk
                have h5 := Option.some.inj hk
                obtain ⟨_, _, e6, h6 | ⟨g6, k6, e7, _, h6, _⟩⟩ := hV.out
                · simp only [Value.slice.injEq] at e6
                  rw [h6.1] at e6
                  cases e6.1
                · simp only [Value.slice.injEq] at e6
                  rw [e7] at e6
                  have h8 := h6.lt
                  have h9 : sg = k := Option.some.inj hk2
                  have h10 : sg = g6 := by have := Option.some.inj e6.1; simp at this; exact this.1
                  simp at h5
                  omega
    · obtain rfl : i = o.length := by omega
      have i1 : ¬ (o.length : Int) < (o.length : Int) := by omega
      rw [List.take_length] at hB hbl
      go_wp2
      go_ret
      exact ⟨_, rfl, hB.out⟩
end Go.Proofs.Ytcogpcalghfghaa
