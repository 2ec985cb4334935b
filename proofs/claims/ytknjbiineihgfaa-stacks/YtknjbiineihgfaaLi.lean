/-
  Cut, by the state; which tags were asked about.
-/
import Derived.Test.YtknjbiineihgfaaLh
set_option linter.unusedVariables false
set_option linter.unusedSimpArgs false
namespace Go.Proofs.Ytknjbiineihgfaa
open Go.RowKit

/-- The tags, the innermost first. -/
def tagsR (T : List Sg) : List Int := ((flatT 0 T).map (fun x => x.2)).reverse
theorem ask_tags (k : Int) (T : List Sg) (a : Sg) (h0 : T[0]? = some a) (ha : a.has = false) : ∀ m, m < T.length →
    (∃ r, tagsR (T.take (m + 1)) = (findN k T m).2 ++ r ∧ ((findN k T m).1 = 0 → r = [])) ∧ ∀ j x, (findN k T m).2[j]? = some x → j + 1 < (findN k T m).2.length → ¬ x.tmod 3 = k := by
  intro m
  induction m with
  | zero =>
    intro h
    have e : T.take 1 = [a] := by
      cases T with
      | nil => simp at h0
      | cons b r => simp at h0; subst h0; rfl
    refine ⟨⟨[], by simp [findN, tagsR, e, flatT, ha], fun _ => rfl⟩, fun j x hx => ?_⟩
    simp [findN] at hx
  | succ m ih =>
    intro hm
    obtain ⟨⟨r, h1, h2⟩, h3⟩ := ih (by omega)
    obtain ⟨s, hs⟩ : ∃ s, T[m + 1]? = some s := ⟨T[m + 1], by simp⟩
    obtain ⟨_, f2⟩ := flatT_at hs
    have hR : tagsR (T.take (m + 1 + 1)) = (if s.has then [s.tag] else []) ++ tagsR (T.take (m + 1)) := by
      unfold tagsR
      rw [f2]
      cases s.has <;> simp
    rw [findN, hs]
    dsimp only
    cases hh : s.has with
    | false =>
      rw [hh] at hR
      simp only [Bool.false_eq_true, if_false, List.nil_append] at hR ⊢
      exact ⟨⟨r, by rw [hR]; exact h1, h2⟩, h3⟩
    | true =>
      rw [hh] at hR
      simp only [if_true] at hR ⊢
      by_cases ht : s.tag.tmod 3 = k
      · rw [if_pos ht]
        refine ⟨⟨tagsR (T.take (m + 1)), by rw [hR], fun e => by simp at e⟩, fun j x hx hj => ?_⟩
        simp at hj
      · rw [if_neg ht]
        dsimp only
        refine ⟨⟨r, by rw [hR, h1]; simp, h2⟩, fun j x hx hj => ?_⟩
        cases j with
        | zero =>
          obtain rfl : s.tag = x := by simpa using hx
          exact ht
        | succ j => exact h3 j x (by simpa using hx) (by simpa using hj)

section
variable {w0 w : World} {g : Gh} {j : Bool} {T : List Sg}

/-- What is left by the program's Cut. -/
def CutG (w0 : World) (g : Gh) (j : Bool) (T : List Sg) (k : Int) (deep : Bool) (e : Ending) (w' : World) : Prop :=
  ((findN k T (T.length - 1)).1 = 0 ∧ e = .returned (.tuple #[.pointer none, .int .i64 0, .bool false]) ∧ Mem w0 g w') ∨
  (∃ n y pb u PS pz D v S z, (findN k T (T.length - 1)).1 = n + 1 ∧ T[n + 1]? = some y ∧ e = .returned (.tuple #[.pointer (some ⟨pb, 0, none⟩), .int .i64 y.tag, .bool true]) ∧ Mem w0 (g.setSt j D v S z) w' ∧ (S ++ [z]).map Sn.s = T.take (n + 1) ∧
    PcM D w' pb u PS pz ∧ (PS ++ [pz]).map Sn.s = (if deep then y else unS y) :: T.drop (n + 2))
theorem Mem.cut (h : Mem w0 g w) (hT : (g.S j ++ [g.z j]).map Sn.s = T) (hl : (g.S j).length < 1000000) (hcn : cntN (g.S j ++ [g.z j]) < 1000000000) (deep : Bool)
    {P Q : Nat} {va : Value} {k : Int} (hA : Ask w P va []) (hQ : w.cell? ⟨Q, 0, none⟩ = some (.int .i64 k)) (hQP : ¬ own P va Q) (hfree : ∀ ρ i, own P va i → ¬ g.own ρ i) (hold : ∀ i, own P va i → w0.heap.size ≤ i) :
    Calls Try.prog 17 #[.pointer (some ⟨g.b j, 0, none⟩), .func (.func 18) #[] #[.pointer (some ⟨P, 0, none⟩), .pointer (some ⟨Q, 0, none⟩)], .bool deep] w fun e w' =>
      (∃ va', Ask w' P va' (findN k T (T.length - 1)).2 ∧ More w (own P va) (own P va')) ∧ Ch (fun i => own (g.b j) (g.v j) i ∨ own P va i) w w' ∧ CutG w0 g j T k deep e w' := by
  have hTl : T.length - 1 = (g.S j).length := by rw [← hT]; simp
  unfold CutG
  rw [hTl]
  refine (cut_any w (g.b j) (g.v j) (g.S j) (g.z j) deep h.dl (h.st j) hl hcn P Q va k hA hQ hQP (fun i hi hP => ?_)).mono ?_
  · rcases hi with e | e
    · exact hfree .d i hP e
    · exact hfree (.st j) i hP e
  · rintro e w' ⟨h1, h2⟩
    rw [hT] at h1 h2
    rcases h2 with ⟨n0, rfl, hst, hc⟩ | ⟨n, x, y, pb, D', v', u, PS, pz, n1, hx, hy, rfl, hst, hpc, hP, hD, hDl, hDm, hm, hc⟩
    · exact ⟨h1, hc.mono (fun _ h => .inr h), .inl ⟨n0, rfl, h.stay hc (fun ρ i hi hr => hfree ρ i hi hr) hold⟩⟩
    · have hys : T[n + 1]? = some y.s := by rw [← hT, List.getElem?_map, hy]; rfl
      have hnl : n < (g.S j).length := (List.getElem?_eq_some_iff.1 hx).1
      refine ⟨h1, hc, .inr ⟨n, y.s, pb, u, PS, pz, D', v', (g.S j).take n, x, n1, hys, rfl, h.setSt hc (fun i hi => ?_) hD hDm hm hst hDl, ?_, hpc, ?_⟩⟩
      · rcases hi with e | e
        · exact .inl e
        · exact .inr ⟨fun ρ => hfree ρ i e, hold i e⟩
      · have e : (g.S j).take n ++ [x] = (g.S j ++ [g.z j]).take (n + 1) := by
          rw [List.take_append_of_le_length (by omega)]
          exact (take_at hx).2.1.symm
        rw [e, List.map_take, hT]
      · rw [hP]
        have e : ((g.S j ++ [g.z j]).drop (n + 2)).map Sn.s = T.drop (n + 2) := by rw [← hT, List.map_drop]
        rw [List.map_append, e]
        cases deep <;> simp [unN]
/-- What is left by the document's Cut. -/
def RCutG (w0 : World) (g : Gh) (j : Bool) (T : List Sg) (k : Int) (deep : Bool) (e : Ending) (w' : World) : Prop :=
  ((findN k T (T.length - 1)).1 = 0 ∧ e = .returned (.tuple #[.slice none 0 0, .int .i64 0, .bool false]) ∧ Mem w0 g w') ∨
  (∃ n y q M v L, (findN k T (T.length - 1)).1 = n + 1 ∧ T[n + 1]? = some y ∧ e = .returned (.tuple #[q, .int .i64 y.tag, .bool true]) ∧ Mem w0 (g.setRt j v L) w' ∧ L.map Rn.s = T.take (n + 1) ∧ RsM w' q M ∧ M.map Rn.s = (if deep then y else unS y) :: T.drop (n + 2) ∧
    (∀ ρ i, (g.setRt j v L).own ρ i → rown q M i → False) ∧ ∀ i, rown q M i → w0.heap.size ≤ i)
theorem Mem.rcut (h : Mem w0 g w) (hT : (g.L j).map Rn.s = T) (hL : (g.L j).length < 1000000) (hl : ∀ r ∈ g.L j, r.s.l.length < 1000000000) (hf : ∃ a r, T = a :: r ∧ a.has = false) (k : Int) (deep : Bool) :
    Calls Try.prog 20 #[.pointer (some ⟨g.c j, 0, none⟩), .int .i64 k, .bool deep] w fun e w' => Ch (rtown (g.c j) (g.rv j) (g.L j)) w w' ∧ RCutG w0 g j T k deep e w' := by
  have hTl : T.length - 1 = (g.L j).length - 1 := by rw [← hT]; simp
  obtain ⟨a, r, hTa, ha⟩ := hf
  obtain ⟨r0, hr0, hr0s⟩ : ∃ r0, (g.L j)[0]? = some r0 ∧ r0.s = a := by
    rw [hTa] at hT
    obtain ⟨r0, D, h4, h5, h6⟩ := List.map_eq_cons_iff.1 hT
    exact ⟨r0, by rw [h4]; rfl, h5⟩
  unfold RCutG
  rw [hTl]
  refine (rcut_any w (g.c j) (g.rv j) (g.L j) k deep (h.rt j) hL hl r0 hr0 (by rw [hr0s]; exact ha)).mono ?_
  rintro e w' h2
  unfold RCutPost at h2
  rw [hT] at h2
  rcases h2 with ⟨n0, rfl, hs⟩ | ⟨n, y, q, M, v', n1, hy, rfl, hrt, hM, hMs, hnew, hc, hsub⟩
  · exact ⟨hs.ch _, .inl ⟨n0, rfl, h.quiet (hs.ch _)⟩⟩
  · have hys : T[n + 1]? = some y.s := by rw [← hT, List.getElem?_map, hy]; rfl
    refine ⟨hc, .inr ⟨n, y.s, q, M, v', (g.L j).take (n + 1), n1, hys, rfl, h.setRt hc (fun i hi => .inl (hsub i hi)) hrt, by rw [List.map_take, hT], hM, by rw [hMs, List.map_drop, hT], fun ρ i h1 h2 => ?_, fun i hi => ?_⟩⟩
    · have hi := hnew i h2
      have key : g.own ρ i := by
        cases ρ with
        | rt i2 =>
          by_cases e : i2 = j
          · subst e
            have h3 : rtown (g.c i2) v' ((g.L i2).take (n + 1)) i := by simpa [Gh.own, Gh.setRt] using h1
            exact hsub i h3
          · simpa [Gh.own, Gh.setRt, at1_other _ _ e] using h1
        | d => exact h1
        | st i => exact h1
        | pc i => exact h1
        | p => exact h1
        | q => exact h1
        | s => exact h1
        | r => exact h1
      have := h.lt ρ i key
      omega
    · have := hnew i hi; have := h.ch.size; omega
end
end Go.Proofs.Ytknjbiineihgfaa
