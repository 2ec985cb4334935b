/-
  The law's alike and piece.
-/
import Derived.Test.YtknjbiineihgfaaLa
set_option linter.unusedVariables false
set_option linter.unusedSimpArgs false
namespace Go.Proofs.Ytknjbiineihgfaa
open Go.RowKit

theorem flatF_len (L : List Sn) : ∀ i, (flatF i (L.map Sn.s)).length = cntN L := by
  induction L with
  | nil => intro i; rfl
  | cons a r ih => intro i; simp [flatF, ih (i + 1), cntN]
theorem flatT_len (T : List Sg) : ∀ i, (flatT i T).length ≤ T.length := by
  induction T with
  | nil => intro i; exact Nat.le_refl _
  | cons a r ih =>
    intro i
    have := ih (i + 1)
    simp only [flatT, List.length_append, List.length_cons]
    split
    · simp; omega
    · simp; omega
theorem RdS.of {w : World} {v : Value} {L : List Rn} (h : RsM w v L) (hL : 0 < L.length) : ∃ g cap, v = .slice (some ⟨g, 0, none⟩) L.length cap ∧ RdS w g 0 L := by
  obtain ⟨g, cap, rfl, _⟩ := h.form hL
  have := h.read 0
  rw [List.drop_zero, Nat.zero_mul] at this
  exact ⟨g, cap, rfl, this⟩

/-- What the law asks of a stack or a piece and the document's: calls that tell the same. -/
structure Tells (w : World) (b : Nat) (T : List Sg) (fLen fSeg fAll fTags : Nat) : Prop where
  len : ∀ W, Ch (fun _ => False) w W → Calls Try.prog fLen #[.pointer (some ⟨b, 0, none⟩)] W fun e w' => e = .returned (.int .i64 ((flatF 0 T).length : Nat)) ∧ w' = W
  seg : ∀ W, Ch (fun _ => False) w W → Calls Try.prog fSeg #[.pointer (some ⟨b, 0, none⟩)] W fun e w' => e = .returned (.int .i64 (T.length : Nat)) ∧ w' = W
  all : ∀ W, Ch (fun _ => False) w W → Calls Try.prog fAll #[.pointer (some ⟨b, 0, none⟩)] W fun e w' => ∃ B, e = .returned (.func (.func 44) #[] #[.pointer (some ⟨B, 0, none⟩)]) ∧ Ch (fun _ => False) w w' ∧
    Calls Try.prog 36 #[.func (.func 44) #[] #[.pointer (some ⟨B, 0, none⟩)]] w' fun e w2 => ∃ v, e = .returned v ∧ w2.ownsRow 0 52 2 v (flatF 0 T).length (pairCells (flatF 0 T)) ∧ Ch (fun _ => False) w w2 ∧ Ch (fun _ => False) W w2
  tags : ∀ W, Ch (fun _ => False) w W → Calls Try.prog fTags #[.pointer (some ⟨b, 0, none⟩)] W fun e w' => ∃ B, e = .returned (.func (.func 47) #[] #[.pointer (some ⟨B, 0, none⟩)]) ∧ Ch (fun _ => False) w w' ∧
    Calls Try.prog 36 #[.func (.func 47) #[] #[.pointer (some ⟨B, 0, none⟩)]] w' fun e w2 => ∃ v, e = .returned v ∧ w2.ownsRow 0 52 2 v (flatT 0 T).length (pairCells (flatT 0 T)) ∧ Ch (fun _ => False) w w2 ∧ Ch (fun _ => False) W w2
  fl : (flatF 0 T).length < 1000000000
  tl : T.length < 100000000
theorem tells_row {D : Nat → Prop} {w : World} {b : Nat} {S : List Sn} {z : Sn} {a : Option Addr} {cap g : Nat} (hDl : ∀ k, D k → k < w.heap.size) (h : RowAt D w b S z a cap g (cntN (S ++ [z]) : Nat)) (hn : S.length < 1000000) (hc : cntN (S ++ [z]) < 1000000000) {fAll fTags : Nat}
    (hA : ∀ W, Calls Try.prog fAll #[.pointer (some ⟨b, 0, none⟩)] W fun e w' => e = .returned (.func (.func 44) #[] #[.pointer (some ⟨W.heap.size, 0, none⟩)]) ∧ w' = W.alloc (.cells #[.pointer (some ⟨b, 0, none⟩)] 80))
    (hT : ∀ W, Calls Try.prog fTags #[.pointer (some ⟨b, 0, none⟩)] W fun e w' => e = .returned (.func (.func 47) #[] #[.pointer (some ⟨W.heap.size, 0, none⟩)]) ∧ w' = W.alloc (.cells #[.pointer (some ⟨b, 0, none⟩)] 80)) {fLen fSeg : Nat}
    (hL : ∀ W (c : Int), W.cell? ⟨b, 5, none⟩ = some (.int .i64 c) → Calls Try.prog fLen #[.pointer (some ⟨b, 0, none⟩)] W fun e w' => e = .returned (.int .i64 c) ∧ w' = W)
    (hS : ∀ W (n : Nat) (a : Option Addr) (cap : Nat), W.cell? ⟨b, 0, none⟩ = some (.slice a n cap) → n < 1000000000000 → Calls Try.prog fSeg #[.pointer (some ⟨b, 0, none⟩)] W fun e w' => e = .returned (.int .i64 (n + 1 : Nat)) ∧ w' = W) :
    Tells w b ((S ++ [z]).map Sn.s) fLen fSeg fAll fTags := by
  have hlen : ∀ x ∈ S ++ [z], x.s.l.length < 1000000000 := fun x hx => by
    have : x.s.l.length ≤ cntN (S ++ [z]) := by
      obtain ⟨A, B, e⟩ := List.append_of_mem hx
      rw [e]
      simp [cntN]
      omega
    omega
  have hfl : (flatF 0 ((S ++ [z]).map Sn.s)).length < 1000000000 := by rw [flatF_len]; exact hc
  have hft : (flatT 0 ((S ++ [z]).map Sn.s)).length < 1000000000 := Nat.lt_of_le_of_lt (flatT_len _ 0) (by simp; omega)
  have hk : ∀ W, Ch (fun _ => False) w W → RowAt D W b S z a cap g (cntN (S ++ [z]) : Nat) := fun W hW => h.keep (fun _ h => h) (fun k hk => hW.same k (hDl k hk) (fun h => h))
  refine ⟨fun W hW => ?_, fun W hW => ?_, fun W hW => ?_, fun W hW => ?_, hfl, by simp; omega⟩
  · rw [flatF_len]; exact hL W _ (hk W hW).fc
  · have e : ((S ++ [z]).map Sn.s).length = S.length + 1 := by simp
    rw [e]; exact hS W _ a cap (hk W hW).fv (by omega)
  · refine (hA W).mono ?_
    rintro e w' ⟨rfl, rfl⟩
    have hc1 : Ch (fun _ => False) w (W.alloc (.cells #[.pointer (some ⟨b, 0, none⟩)] 80)) := hW.al _
    refine ⟨_, rfl, hc1, (listed_All _ D b S z a cap g _ (fun k hk => Nat.lt_of_lt_of_le (hDl k hk) hc1.size) (hk _ hc1) (by omega) hlen hfl _ (World.alloc_heap_new W _)).mono ?_⟩
    rintro e w2 ⟨v, h1, h2, _, h4⟩
    exact ⟨v, h1, h2, hc1.trans h4 (fun _ h => h.elim), ((Ch.refl _ W).al _).trans h4 (fun _ h => h.elim)⟩
  · refine (hT W).mono ?_
    rintro e w' ⟨rfl, rfl⟩
    have hc1 : Ch (fun _ => False) w (W.alloc (.cells #[.pointer (some ⟨b, 0, none⟩)] 80)) := hW.al _
    refine ⟨_, rfl, hc1, (listed_Tags _ D b S z a cap g _ (fun k hk => Nat.lt_of_lt_of_le (hDl k hk) hc1.size) (hk _ hc1) (by omega) hft _ (World.alloc_heap_new W _)).mono ?_⟩
    rintro e w2 ⟨v, h1, h2, _, h4⟩
    exact ⟨v, h1, h2, hc1.trans h4 (fun _ h => h.elim), ((Ch.refl _ W).al _).trans h4 (fun _ h => h.elim)⟩
end Go.Proofs.Ytknjbiineihgfaa
