/-
  Bags of names as lists in order: how a name joins one, what one has beyond another; plain laws, no program is named here.
-/
import Derived.Test.YtcogpcalghfghaaMTy
set_option linter.unusedVariables false
set_option linter.unusedSimpArgs false
namespace Go.Proofs.Ytcogpcalghfghaa
namespace Un
abbrev Nm := List UInt8

/-- In the order of their bytes. -/
def Srt (l : List Nm) : Prop := l.Pairwise (· ≤ ·)
theorem srt_ext {l m : List Nm} (hl : Srt l) (hm : Srt m) (h : ∀ x, l.count x = m.count x) : l = m :=
  List.Perm.eq_of_pairwise (fun _ _ _ _ h1 h2 => List.le_antisymm h1 h2) hl hm (List.perm_iff_count.2 h)
theorem srt_of : ∀ {l : List Nm}, Ty.inOrder l → Srt l := by
  intro l
  induction l with
  | nil => intro _; exact List.Pairwise.nil
  | cons x r ih =>
    intro h
    cases r with
    | nil => exact List.pairwise_singleton _ _
    | cons y r =>
      obtain ⟨h1, h2⟩ := h
      have h3 : Srt (y :: r) := ih h2
      refine List.Pairwise.cons (fun z hz => ?_) h3
      have hxy : x ≤ y := List.not_lt.1 h1
      rcases List.mem_cons.1 hz with rfl | hz
      · exact hxy
      · exact List.le_trans hxy (List.rel_of_pairwise_cons h3 hz)
/-- A name joins names in order, behind those that are the same. -/
def ins (s : Nm) : List Nm → List Nm
  | [] => [s]
  | x :: r => if x ≤ s then x :: ins s r else s :: x :: r
theorem ins_count (s y : Nm) : ∀ (l : List Nm), (ins s l).count y = l.count y + if s = y then 1 else 0 := by
  intro l
  induction l with
  | nil => simp [ins, List.count_cons]
  | cons x r ih =>
    unfold ins
    split
    · rw [List.count_cons, List.count_cons, ih]; omega
    · rw [List.count_cons]; simp
theorem ins_mem {s y : Nm} : ∀ {l : List Nm}, y ∈ ins s l → y = s ∨ y ∈ l := by
  intro l
  induction l with
  | nil => intro h; exact .inl (by simpa [ins] using h)
  | cons x r ih =>
    intro h
    unfold ins at h
    split at h
    · rcases List.mem_cons.1 h with rfl | h
      · exact .inr (by simp)
      · rcases ih h with h | h
        · exact .inl h
        · exact .inr (by simp [h])
    · rcases List.mem_cons.1 h with rfl | h
      · exact .inl rfl
      · exact .inr h
theorem ins_srt {s : Nm} : ∀ {l : List Nm}, Srt l → Srt (ins s l) := by
  intro l
  induction l with
  | nil => intro _; exact List.pairwise_singleton _ _
  | cons x r ih =>
    intro h
    unfold ins
    split
    · rename_i hx
      refine List.Pairwise.cons (fun z hz => ?_) (ih (List.Pairwise.of_cons h))
      rcases ins_mem hz with rfl | hz
      · exact hx
      · exact List.rel_of_pairwise_cons h hz
    · rename_i hx
      have hsx : s ≤ x := (List.le_total s x).resolve_right hx
      refine List.Pairwise.cons (fun z hz => ?_) h
      rcases List.mem_cons.1 hz with rfl | hz
      · exact hsx
      · exact List.le_trans hsx (List.rel_of_pairwise_cons h hz)
theorem ins_length (s : Nm) : ∀ (l : List Nm), (ins s l).length = l.length + 1 := by
  intro l
  induction l with
  | nil => rfl
  | cons x r ih =>
    unfold ins
    split
    · simp [ih]
    · rfl
/-- Two bags as one. -/
def joinB (a b : List Nm) : List Nm := b.foldl (fun l s => ins s l) a
theorem joinB_count (y : Nm) : ∀ (b a : List Nm), (joinB a b).count y = a.count y + b.count y := by
  intro b
  induction b with
  | nil => intro a; simp [joinB]
  | cons s b ih =>
    intro a
    have := ih (ins s a)
    unfold joinB at this ⊢
    rw [List.foldl_cons, this, ins_count, List.count_cons]
    by_cases h : s = y
    · simp [h]; omega
    · simp [h]
theorem joinB_srt : ∀ (b a : List Nm), Srt a → Srt (joinB a b) := by
  intro b
  induction b with
  | nil => intro a h; exact h
  | cons s b ih => intro a h; exact ih _ (ins_srt h)
theorem joinB_length : ∀ (b a : List Nm), (joinB a b).length = a.length + b.length := by
  intro b
  induction b with
  | nil => intro a; rfl
  | cons s b ih =>
    intro a
    have := ih (ins s a)
    unfold joinB at this ⊢
    rw [List.foldl_cons, this, ins_length, List.length_cons]
    omega
theorem joinB_nil {a : List Nm} (h : Srt a) : joinB [] a = a :=
  srt_ext (joinB_srt _ _ List.Pairwise.nil) h (fun x => by rw [joinB_count]; simp)
theorem joinB_assoc {a b c : List Nm} (ha : Srt a) : joinB (joinB a b) c = joinB a (joinB b c) := by
  refine srt_ext (joinB_srt _ _ (joinB_srt _ _ ha)) (joinB_srt _ _ ha) (fun x => ?_)
  rw [joinB_count, joinB_count, joinB_count, joinB_count]
  omega
/-- What a has beyond b. -/
def less : List Nm → List Nm → List Nm
  | [], _ => []
  | x :: r, b => if x ∈ b then less r (b.erase x) else x :: less r b
theorem less_count (y : Nm) : ∀ (a b : List Nm), (less a b).count y = a.count y - b.count y := by
  intro a
  induction a with
  | nil => intro b; simp [less]
  | cons x r ih =>
    intro b
    unfold less
    split
    · rename_i h
      rw [ih, List.count_erase, List.count_cons]
      by_cases e : x = y
      · subst e
        have := List.count_pos_iff.2 h
        simp
        omega
      · simp [e]
    · rename_i h
      rw [List.count_cons, ih, List.count_cons]
      by_cases e : x = y
      · subst e
        have := List.count_eq_zero.2 h
        simp
        omega
      · simp [e]
theorem less_sub : ∀ (a b : List Nm), (less a b).Sublist a := by
  intro a
  induction a with
  | nil => intro b; exact List.Sublist.refl _
  | cons x r ih =>
    intro b
    unfold less
    split
    · exact (ih _).trans (List.sublist_cons_self x r)
    · exact (ih b).cons_cons x
theorem less_srt {a : List Nm} (b : List Nm) (h : Srt a) : Srt (less a b) := List.Pairwise.sublist (less_sub a b) h
theorem less_eq {a b d : List Nm} (ha : Srt a) (hd : Srt d) (h : ∀ x, d.count x = a.count x - b.count x) : less a b = d :=
  srt_ext (less_srt b ha) hd (fun x => by rw [less_count, h])

/- bags with counts -/
/-- Each name once, with how often it stands there. -/
def flat (b : List (Nm × Nat)) : List Nm := b.flatMap fun s => List.replicate s.2 s.1
def BagOK (b : List (Nm × Nat)) : Prop := b.Pairwise (fun s t => s.1 < t.1) ∧ ∀ s ∈ b, 1 ≤ s.2
def times (b : List (Nm × Nat)) (y : Nm) : Nat := (b.find? fun s => s.1 == y).elim 0 (·.2)
theorem flat_srt : ∀ {b : List (Nm × Nat)}, BagOK b → Srt (flat b) := by
  intro b
  induction b with
  | nil => intro _; exact List.Pairwise.nil
  | cons s b ih =>
    rintro ⟨h1, h2⟩
    have hb : BagOK b := ⟨h1.of_cons, fun t ht => h2 t (by simp [ht])⟩
    show Srt (List.replicate s.2 s.1 ++ flat b)
    refine List.pairwise_append.2 ⟨?_, ih hb, fun x hx y hy => ?_⟩
    · exact List.pairwise_replicate.2 (.inr (List.le_refl _))
    · obtain rfl := List.eq_of_mem_replicate hx
      obtain ⟨t, ht, hy⟩ := List.mem_flatMap.1 hy
      obtain rfl := List.eq_of_mem_replicate hy
      exact List.le_of_lt (List.rel_of_pairwise_cons h1 ht)
theorem flat_count (y : Nm) : ∀ {b : List (Nm × Nat)}, BagOK b → (flat b).count y = times b y := by
  intro b
  induction b with
  | nil => intro _; rfl
  | cons s b ih =>
    rintro ⟨h1, h2⟩
    have hb : BagOK b := ⟨h1.of_cons, fun t ht => h2 t (by simp [ht])⟩
    show (List.replicate s.2 s.1 ++ flat b).count y = _
    rw [List.count_append, List.count_replicate, ih hb]
    unfold times
    rw [List.find?_cons]
    by_cases e : s.1 = y
    · have hz : b.find? (fun s => s.1 == y) = none := by
        rw [List.find?_eq_none]
        intro t ht h
        have h3 : t.1 = y := by simpa using h
        have h4 := List.rel_of_pairwise_cons h1 ht
        rw [h3, e] at h4
        exact absurd h4 (List.lt_irrefl _)
      simp [e, hz]
    · have e2 : (s.1 == y) = false := by simpa using e
      simp [e2]
theorem flat_length : ∀ (b : List (Nm × Nat)), (flat b).length = (b.map (·.2)).sum := by
  intro b
  induction b with
  | nil => rfl
  | cons s b ih =>
    show (List.replicate s.2 s.1 ++ flat b).length = _
    rw [List.length_append, List.length_replicate, ih]
    simp
end Un
end Go.Proofs.Ytcogpcalghfghaa
