/-
  What is done with stacks, by the state.
-/
import Derived.Test.YtknjbiineihgfaaLg
import Derived.Test.YtknjbiineihgfaaSp
set_option linter.unusedVariables false
set_option linter.unusedSimpArgs false
namespace Go.Proofs.Ytknjbiineihgfaa
open Go.RowKit

/-- The stack j is turned: its segments are T. -/
def StP (w0 : World) (g : Gh) (j : Bool) (T : List Sg) (w : World) : Prop := ∃ D v S z, Mem w0 (g.setSt j D v S z) w ∧ (S ++ [z]).map Sn.s = T
def RtP (w0 : World) (g : Gh) (j : Bool) (T : List Sg) (w : World) : Prop := ∃ v L, Mem w0 (g.setRt j v L) w ∧ L.map Rn.s = T
theorem at1_self {α : Type} (f : Bool → α) (j : Bool) : at1 f j (f j) = f := by
  funext i
  by_cases h : i = j
  · subst h; simp [at1]
  · simp [at1, h]
theorem Gh.setSt_self (g : Gh) (j : Bool) : g.setSt j g.D (g.v j) (g.S j) (g.z j) = g := by simp [Gh.setSt, at1_self]
theorem Gh.setRt_self (g : Gh) (j : Bool) : g.setRt j (g.rv j) (g.L j) = g := by simp [Gh.setRt, at1_self]
theorem StP.self {w0 w : World} {g : Gh} {j : Bool} (h : Mem w0 g w) {T : List Sg} (hT : (g.S j ++ [g.z j]).map Sn.s = T) : StP w0 g j T w := ⟨g.D, g.v j, g.S j, g.z j, by rw [Gh.setSt_self]; exact h, hT⟩
theorem RtP.self {w0 w : World} {g : Gh} {j : Bool} (h : Mem w0 g w) {T : List Sg} (hT : (g.L j).map Rn.s = T) : RtP w0 g j T w := ⟨g.rv j, g.L j, by rw [Gh.setRt_self]; exact h, hT⟩
theorem rsplit {L : List Rn} {A : List Sg} {a : Sg} (h : L.map Rn.s = A ++ [a]) : ∃ B r, L = B ++ [r] ∧ B.map Rn.s = A ∧ r.s = a := by
  obtain ⟨B, C, h1, h2, h3⟩ := List.map_eq_append_iff.1 h
  obtain ⟨r, D, h4, h5, h6⟩ := List.map_eq_cons_iff.1 h3
  obtain rfl : D = [] := by simpa using h6
  exact ⟨B, r, by rw [h1, h4], h2, h5⟩

section
variable {w0 w : World} {g : Gh} {j : Bool} {A : List Sg} {a : Sg}

theorem Mem.dl (h : Mem w0 g w) : ∀ k, g.D k → k < w.heap.size := fun k hk => h.lt .d k hk

theorem Mem.push (h : Mem w0 g w) (f : Int) (hA : (g.S j).map Sn.s = A) (ha : (g.z j).s = a) (hn : cntN (g.S j ++ [g.z j]) < 1000000000) :
    Calls Try.prog 7 #[.pointer (some ⟨g.b j, 0, none⟩), .int .i64 f] w fun e w' => e = .returned (.tuple #[]) ∧ StP w0 g j (A ++ [⟨a.has, a.tag, a.l ++ [f]⟩]) w' := by
  refine (push_any w (g.b j) (g.v j) (g.S j) (g.z j) f h.dl (h.st j) hn).mono ?_
  rintro e w' ⟨rfl, h1, h2⟩
  have hlt : w.heap.size < w'.heap.size := (h1.ch _ (List.mem_append_right _ (List.mem_singleton_self _))).lt ⟨w.heap.size, 0, none⟩ rfl
  refine ⟨rfl, _, _, _, _, h.setSt h2 (fun k hk => .inl (.inl hk)) (fun k hk => .inl hk) (fun k hk => ?_) (fun k hk => .inl hk) h1 (fun k hk => ?_), by simp [hA, ha]⟩
  · rcases hk with e | e
    · exact .inl e
    · exact .inr (by omega)
  · rcases hk with e | e
    · have := h.dl k e; have := h2.size; omega
    · omega
theorem Mem.rpush (h : Mem w0 g w) (f : Int) (hl : (g.L j).map Rn.s = A ++ [a]) (hA : A.length < 1000000) (ha : a.l.length < 1000000000) :
    Calls Try.prog 8 #[.pointer (some ⟨g.c j, 0, none⟩), .int .i64 f] w fun e w' => e = .returned (.tuple #[]) ∧ RtP w0 g j (A ++ [⟨a.has, a.tag, a.l ++ [f]⟩]) w' := by
  obtain ⟨B, r, hL, hB, rfl⟩ := rsplit hl
  have hrt := h.rt j
  rw [hL] at hrt
  refine (rpush_any w (g.c j) (g.rv j) B r f hrt (by rw [← hB] at hA; simpa using hA) ha).mono ?_
  rintro e w' ⟨rfl, v', u', h1, h2, h3⟩
  rw [← hL] at h2 h3
  exact ⟨rfl, v', _, h.setRt h2 h3 h1, by simp [hB]⟩

/-- What Pop and Top answer. -/
def topV (a : Sg) : Value := .tuple #[.int .i64 (a.l.getLast?.getD 0), .bool (!a.l.isEmpty)]
theorem last_split (l : List Int) (h : l ≠ []) : ∃ m f, l = m ++ [f] := by
  rcases List.eq_nil_or_concat l with e | ⟨m, f, e⟩
  · exact absurd e h
  · exact ⟨m, f, by simpa using e⟩
theorem Mem.pop (h : Mem w0 g w) (hA : (g.S j).map Sn.s = A) (ha : (g.z j).s = a) (hn : cntN (g.S j ++ [g.z j]) < 1000000000) :
    Calls Try.prog 9 #[.pointer (some ⟨g.b j, 0, none⟩)] w fun e w' => e = .returned (topV a) ∧ StP w0 g j (A ++ [⟨a.has, a.tag, a.l.dropLast⟩]) w' := by
  by_cases hz : (g.z j).s.l = []
  · refine (pop_none w (g.b j) (g.v j) (g.S j) (g.z j) (h.st j) hz).mono ?_
    rintro e w' ⟨rfl, rfl⟩
    have hz' : a.l = [] := by rw [← ha]; exact hz
    refine ⟨by simp [topV, hz'], StP.self h ?_⟩
    obtain ⟨x, y, l⟩ := a
    dsimp only at hz'
    subst hz'
    simp [hA, ha]
  · obtain ⟨m, f, hm⟩ := last_split _ hz
    refine (pop_some w (g.b j) (g.v j) (g.S j) (g.z j) h.dl (h.st j) m f hm hn).mono ?_
    rintro e w' ⟨rfl, q, h1, h2⟩
    have hm' : a.l = m ++ [f] := by rw [← ha]; exact hm
    refine ⟨by simp [topV, hm'], _, _, _, _, h.setSt h2 (fun k hk => .inl (.inl hk)) (fun k hk => hk) (fun k hk => .inl hk) (fun k hk => .inl hk) h1 (fun k hk => ?_), by simp [hA, ha, hm']⟩
    have := h.dl k hk; have := h2.size; omega
theorem Mem.rpop (h : Mem w0 g w) (hl : (g.L j).map Rn.s = A ++ [a]) (hA : A.length < 1000000) (ha : a.l.length < 1000000000) :
    Calls Try.prog 10 #[.pointer (some ⟨g.c j, 0, none⟩)] w fun e w' => e = .returned (topV a) ∧ RtP w0 g j (A ++ [⟨a.has, a.tag, a.l.dropLast⟩]) w' := by
  obtain ⟨B, r, hL, hB, rfl⟩ := rsplit hl
  have hrt := h.rt j
  rw [hL] at hrt
  have hBl : B.length < 1000000 := by rw [← hB] at hA; simpa using hA
  by_cases hz : r.s.l = []
  · refine (rpop_none w (g.c j) (g.rv j) B r hrt hBl hz).mono ?_
    rintro e w' ⟨rfl, hs⟩
    refine ⟨by simp [topV, hz], RtP.self (h.quiet (hs.ch _)) ?_⟩
    rw [hl, hz]
    simp
    rw [← hz]
  · obtain ⟨m, f, hm⟩ := last_split _ hz
    refine (rpop_some w (g.c j) (g.rv j) B r hrt hBl m f hm (by rw [hm] at ha; simp at ha; omega)).mono ?_
    rintro e w' ⟨rfl, u', h1, h2, h3⟩
    rw [← hL] at h2 h3
    exact ⟨by simp [topV, hm], _, _, h.setRt h2 h3 h1, by simp [hB, hm]⟩
theorem Mem.top (h : Mem w0 g w) (ha : (g.z j).s = a) :
    Calls Try.prog 11 #[.pointer (some ⟨g.b j, 0, none⟩)] w fun e w' => e = .returned (topV a) ∧ Mem w0 g w' := by
  by_cases hz : (g.z j).s.l = []
  · refine (top_none w (g.b j) (g.v j) (g.S j) (g.z j) (h.st j) hz).mono ?_
    rintro e w' ⟨rfl, rfl⟩
    exact ⟨by simp [topV, ← ha, hz], h⟩
  · obtain ⟨m, f, hm⟩ := last_split _ hz
    refine (top_some w (g.b j) (g.v j) (g.S j) (g.z j) (h.st j) m f hm).mono ?_
    rintro e w' ⟨rfl, rfl⟩
    exact ⟨by simp [topV, ← ha, hm], h⟩
theorem Mem.rtop (h : Mem w0 g w) (hl : (g.L j).map Rn.s = A ++ [a]) (hA : A.length < 1000000) (ha : a.l.length < 1000000000) :
    Calls Try.prog 12 #[.pointer (some ⟨g.c j, 0, none⟩)] w fun e w' => e = .returned (topV a) ∧ Mem w0 g w' := by
  obtain ⟨B, r, hL, hB, rfl⟩ := rsplit hl
  have hrt := h.rt j
  rw [hL] at hrt
  have hBl : B.length < 1000000 := by rw [← hB] at hA; simpa using hA
  by_cases hz : r.s.l = []
  · refine (rtop_none w (g.c j) (g.rv j) B r hrt hBl hz).mono ?_
    rintro e w' ⟨rfl, hs⟩
    exact ⟨by simp [topV, hz], h.quiet (hs.ch _)⟩
  · obtain ⟨m, f, hm⟩ := last_split _ hz
    refine (rtop_some w (g.c j) (g.rv j) B r hrt hBl m f hm (by rw [hm] at ha; simp at ha; omega)).mono ?_
    rintro e w' ⟨rfl, hs⟩
    exact ⟨by simp [topV, hm], h.quiet (hs.ch _)⟩
theorem Mem.opened (h : Mem w0 g w) (tag : Int) (hn : (g.S j).length < 1000000000) :
    Calls Try.prog 13 #[.pointer (some ⟨g.b j, 0, none⟩), .int .i64 tag] w fun e w' => e = .returned (.tuple #[]) ∧ StP w0 g j ((g.S j ++ [g.z j]).map Sn.s ++ [⟨true, tag, []⟩]) w' := by
  refine (open_any w (g.b j) (g.v j) (g.S j) (g.z j) tag h.dl (h.st j) hn).mono ?_
  rintro e w' ⟨rfl, v', h1, h2, h3⟩
  exact ⟨rfl, _, _, _, _, h.setSt h2 (fun k hk => .inl hk) (fun k hk => hk) (fun k hk => .inl hk) h3 h1 (fun k hk => Nat.lt_of_lt_of_le (h.dl k hk) h2.size), by simp⟩
theorem Mem.ropened (h : Mem w0 g w) (tag : Int) (hL : (g.L j).length < 100000000) :
    Calls Try.prog 14 #[.pointer (some ⟨g.c j, 0, none⟩), .int .i64 tag] w fun e w' => e = .returned (.tuple #[]) ∧ RtP w0 g j ((g.L j).map Rn.s ++ [⟨true, tag, []⟩]) w' := by
  refine (ropen_any w (g.c j) (g.rv j) (g.L j) tag (h.rt j) hL).mono ?_
  rintro e w' ⟨rfl, v', u', h1, h2, h3⟩
  exact ⟨rfl, _, _, h.setRt h2 h3 h1, by simp⟩

/-- What Close answers and leaves. -/
def cloR (A : List Sg) (a : Sg) : (Int × Bool × Bool) × List Sg := if A = [] ∨ a.l ≠ [] then ((0, false, false), A ++ [a]) else ((a.tag, a.has, true), A)
def cloV (r : Int × Bool × Bool) : Value := .tuple #[.int .i64 r.1, .bool r.2.1, .bool r.2.2]
theorem Mem.closed (h : Mem w0 g w) (hA : (g.S j).map Sn.s = A) (ha : (g.z j).s = a) (hl : (g.S j).length < 1000000) (hn : cntN (g.S j ++ [g.z j]) < 1000000000) :
    Calls Try.prog 15 #[.pointer (some ⟨g.b j, 0, none⟩)] w fun e w' => e = .returned (cloV (cloR A a).1) ∧ StP w0 g j (cloR A a).2 w' := by
  have hT : (g.S j ++ [g.z j]).map Sn.s = A ++ [a] := by simp [hA, ha]
  by_cases hz : (g.z j).s.l = []
  · have hz' : a.l = [] := by rw [← ha]; exact hz
    rcases List.eq_nil_or_concat (g.S j) with hS | ⟨B, x, hS⟩
    · have hA' : A = [] := by rw [← hA, hS]; rfl
      have hst := h.st j
      rw [hS] at hst
      refine (close_first w (g.b j) (g.v j) (g.z j) hst hz).mono ?_
      rintro e w' ⟨rfl, rfl⟩
      have e : cloR A a = ((0, false, false), A ++ [a]) := by simp [cloR, hA']
      rw [e]
      exact ⟨rfl, StP.self h hT⟩
    · rw [List.concat_eq_append] at hS
      have hst := h.st j
      rw [hS] at hst hl hn
      refine (close_yes w (g.b j) (g.v j) B x (g.z j) h.dl hst hz (by simp at hl; omega) hn).mono ?_
      rintro e w' ⟨rfl, v', h1, h2, h3⟩
      have hA' : A = B.map Sn.s ++ [x.s] := by rw [← hA, hS]; simp
      have e : cloR A a = ((a.tag, a.has, true), A) := by simp [cloR, hA', hz']
      rw [e]
      refine ⟨by rw [ha]; rfl, _, _, _, _, h.setSt h2 (fun k hk => .inl hk) (fun k hk => hk) (fun k hk => .inl hk) h3 h1 (fun k hk => Nat.lt_of_lt_of_le (h.dl k hk) h2.size), by simp [hA']⟩
  · refine (close_frames w (g.b j) (g.v j) (g.S j) (g.z j) (h.st j) (List.length_pos_iff.2 hz)).mono ?_
    rintro e w' ⟨rfl, rfl⟩
    have hz' : a.l ≠ [] := by rw [← ha]; exact hz
    have e : cloR A a = ((0, false, false), A ++ [a]) := by simp [cloR, hz']
    rw [e]
    exact ⟨rfl, StP.self h hT⟩
theorem Mem.rclosed (h : Mem w0 g w) (hl : (g.L j).map Rn.s = A ++ [a]) (hA : A.length < 1000000) :
    Calls Try.prog 16 #[.pointer (some ⟨g.c j, 0, none⟩)] w fun e w' => e = .returned (cloV (cloR A a).1) ∧ RtP w0 g j (cloR A a).2 w' := by
  obtain ⟨B, r, hL, hB, rfl⟩ := rsplit hl
  have hrt := h.rt j
  rw [hL] at hrt
  have hBl : B.length < 1000000 := by rw [← hB] at hA; simpa using hA
  by_cases hc : A = [] ∨ r.s.l ≠ []
  · refine (rclose_no w (g.c j) (g.rv j) B r hrt hBl ?_).mono ?_
    · rcases hc with e | e
      · left; rw [← hB] at e; simpa using e
      · right; exact List.length_pos_iff.2 e
    · rintro e w' ⟨rfl, hs⟩
      have e : cloR A r.s = ((0, false, false), A ++ [r.s]) := by rw [cloR, if_pos hc]
      rw [e]
      exact ⟨rfl, RtP.self (h.quiet (hs.ch _)) hl⟩
  · have hz : r.s.l = [] := Classical.byContradiction fun e => hc (.inr e)
    have hB0 : 0 < B.length := by
      rcases Nat.eq_zero_or_pos B.length with e | e
      · exact absurd (.inl (by rw [← hB, List.length_eq_zero_iff.1 e]; rfl)) hc
      · exact e
    refine (rclose_yes w (g.c j) (g.rv j) B r hrt hBl hB0 hz).mono ?_
    rintro e w' ⟨rfl, v', h1, h2, h3⟩
    rw [← hL] at h2 h3
    have e : cloR A r.s = ((r.s.tag, r.s.has, true), A) := by rw [cloR, if_neg hc]
    rw [e]
    exact ⟨rfl, _, _, h.setRt h2 h3 h1, hB⟩
theorem Mem.len (h : Mem w0 g w) : Calls Try.prog 21 #[.pointer (some ⟨g.b j, 0, none⟩)] w fun e w' => e = .returned (.int .i64 (cntN (g.S j ++ [g.z j]) : Nat)) ∧ w' = w := by
  obtain ⟨c0, c1, c2, c3, c4, c5, hf⟩ := (h.st j).cells
  exact len_any w _ _ c5
theorem Mem.segs (h : Mem w0 g w) (hn : (g.S j).length < 1000000000) : Calls Try.prog 22 #[.pointer (some ⟨g.b j, 0, none⟩)] w fun e w' => e = .returned (.int .i64 ((g.S j).length + 1 : Nat)) ∧ w' = w := by
  obtain ⟨c0, c1, c2, c3, c4, c5, hf⟩ := (h.st j).cells
  obtain ⟨a, cap, hv, _⟩ := row_slice (h.st j).row
  rw [hv] at c0
  exact segments_any w _ _ _ _ c0 (by omega)
theorem Mem.put (h : Mem w0 g w) {x : Pc} (hx : x ∈ g.P) (hn : (g.S j).length < 1000000) (hc : cntN (g.S j ++ [g.z j]) < 1000000000) (hn2 : x.S.length < 1000000) (hc2 : cntN (x.S ++ [x.z]) < 1000000000) :
    Calls Try.prog 23 #[.pointer (some ⟨g.b j, 0, none⟩), .pointer (some ⟨x.pb, 0, none⟩)] w fun e w' => e = .returned (.tuple #[]) ∧ StP w0 g j ((g.S j ++ [g.z j]).map Sn.s ++ (x.S ++ [x.z]).map Sn.s) w' := by
  refine (put_piece w (g.b j) (g.v j) (g.S j) (g.z j) x.pb x.u x.S x.z h.dl (h.st j) (h.pm x hx) (by omega) (by omega) hc hc2).mono ?_
  rintro e w' ⟨rfl, v', h1, h2, h3⟩
  exact ⟨rfl, _, _, _, _, h.setSt h2 (fun k hk => .inl hk) (fun k hk => hk) (fun k hk => .inl hk) h3 h1 (fun k hk => Nat.lt_of_lt_of_le (h.dl k hk) h2.size), by simp⟩
theorem Mem.rput (h : Mem w0 g w) {x : Pc} (hx : x ∈ g.P) (hL : (g.L j).length < 1000000) (hM : x.M.length < 1000000) (hM0 : 0 < x.M.length) (hl : ∀ r ∈ x.M, r.s.l.length < 1000000000) :
    Calls Try.prog 24 #[.pointer (some ⟨g.c j, 0, none⟩), x.q] w fun e w' => e = .returned (.tuple #[]) ∧ RtP w0 g j ((g.L j).map Rn.s ++ x.M.map Rn.s) w' := by
  obtain ⟨gq, cap, hq, hcap⟩ := (h.pr x hx).form hM0
  have hr := (h.pr x hx)
  rw [hq] at hr
  have hrd := hr.read 0
  rw [List.drop_zero, Nat.zero_mul] at hrd
  rw [hq]
  refine (rput_any w (g.c j) (g.rv j) (g.L j) (h.rt j) hL gq 0 cap x.M hrd hM hM0 hl hcap).mono ?_
  rintro e w' ⟨rfl, v', M, h1, h2, h3, h4⟩
  exact ⟨rfl, _, _, h.setRt h3 h4 h1, by simp [h2]⟩
end
end Go.Proofs.Ytknjbiineihgfaa
