/-
  What an argument of the type api.Code reads as is a code in memory.
-/
import Derived.Test.YticmoofjjikefaaDoorCn
import Derived.ProofKit
import Derived.Deep.Slices
set_option linter.unusedVariables false
set_option linter.unusedSimpArgs false
namespace Go.Proofs.YticmoofjjikefaaDoor
open Go.RowKit Go.Deep Go.WideShapes

/-- A number of 64 bits. -/
def inR (x : Int) : Prop := -9223372036854775808 ≤ x ∧ x ≤ 9223372036854775807
def Cd.Ins.inR (x : Cd.Ins) : Prop := Go.Proofs.YticmoofjjikefaaDoor.inR x.op ∧ Go.Proofs.YticmoofjjikefaaDoor.inR x.a ∧ Go.Proofs.YticmoofjjikefaaDoor.inR x.b ∧ Go.Proofs.YticmoofjjikefaaDoor.inR x.n
def Cd.Fun.inR (f : Cd.Fun) : Prop := Go.Proofs.YticmoofjjikefaaDoor.inR f.free ∧ Go.Proofs.YticmoofjjikefaaDoor.inR f.slots ∧ ∀ x ∈ f.ins, x.inR
/-- Its lists are lists of Go's. -/
def Cd.Code.lens (C : Cd.Code) : Prop := C.ops.length ≤ maxLen ∧ C.hans.length ≤ maxLen ∧ C.funs.length ≤ maxLen ∧ (∀ h ∈ C.hans, h.ops.length ≤ maxLen) ∧ ∀ f ∈ C.funs, f.ins.length ≤ maxLen
def Cd.Code.inR (C : Cd.Code) : Prop := (∀ h ∈ C.hans, ∀ x ∈ h.ops, Go.Proofs.YticmoofjjikefaaDoor.inR x) ∧ ∀ f ∈ C.funs, f.inR

theorem plus_plain (g k i : Nat) : (⟨g, k, none⟩ : Addr).add i = ⟨g, k + i, none⟩ := by simp [Addr.add]

/-- Elements of so many cells in a slice. -/
def Elems {α : Type} (w : World) (n : Nat) (R : α → List Value → Prop) (v : Value) (l : List α) : Prop :=
  ∃ (a : Option Addr) (c : Nat), v = .slice a l.length c ∧ l.length ≤ c ∧ (l ≠ [] → ∃ g k, a = some ⟨g, k, none⟩ ∧ ∀ i x, l[i]? = some x → ∃ cs, R x cs ∧ ∀ j u, cs[j]? = some u → w.cell? ⟨g, k + i * n + j, none⟩ = some u)

theorem elems_of {α : Type} [Inhabited α] {H : Type} {enc : TypeId × Value → H} {W : World} {sp : Nat → Bool} {hd : Bool} {t e : TypeId} {n : Nat} {R : α → List Value → Prop} (ht : Tryd.prog.underlying t = some (.slice e)) (hc : Tryd.prog.cellsOf e = n + 1)
    (hR : ∀ (fuel : Nat) (cs : List Value) (x : DataW H × List MemPlace), DataW.trod enc Tryd.prog W 0 sp hd fuel e cs = some x → ∃ a, R a cs)
    {fuel : Nat} {cs : List Value} {x : DataW H × List MemPlace} (h : DataW.trod enc Tryd.prog W 0 sp hd fuel t cs = some x) : ∃ (v : Value) (l : List α), cs = [v] ∧ Elems W (n + 1) R v l ∧ (∀ y ∈ l, ∃ cs, R y cs) ∧ l.length ≤ maxLen := by
  rcases open_slice ht h with ⟨hcs, _⟩ | ⟨a, len, cap, mm, nn, D, Pl, hcs, _, hlc, hcm, hmm, _, hcell⟩
  · exact ⟨_, [], hcs, ⟨none, 0, rfl, Nat.le_refl _, fun h => absurd rfl h⟩, fun y hy => by simp at hy, by simp⟩
  · have hlm : len ≤ mm := by rw [hmm]; split <;> omega
    rw [hc] at hcell
    have each : ∀ i, ∃ y : α, i < len → ∃ cs', R y cs' ∧ W.cells? 0 (a.add (i * (n + 1))) (n + 1) = some cs' := by
      intro i
      by_cases hi : i < len
      · obtain ⟨cs', h1, h2⟩ := hcell i (by omega)
        obtain ⟨y, hy⟩ := hR nn cs' _ h2
        exact ⟨y, fun _ => ⟨cs', hy, h1⟩⟩
      · exact ⟨default, fun h => absurd h hi⟩
    obtain ⟨F, hF⟩ := Classical.axiomOfChoice each
    have hl : ((List.range len).map F).length = len := by simp
    refine ⟨_, (List.range len).map F, hcs, ⟨some a, cap, by rw [hl], by rw [hl]; exact hlc, fun hne => ?_⟩, fun y hy => ?_, by rw [hl]; omega⟩
    · have hpos : 0 < len := by
        rcases Nat.eq_zero_or_pos len with h0 | h0
        · subst h0; simp at hne
        · exact h0
      obtain ⟨b, off, spot⟩ := a
      obtain ⟨cs0, hr0, h00⟩ := hF 0 hpos
      have hs0 := World.cells?_some h00
      have hspot : spot = none := by
        have hlen0 : cs0.length = n + 1 := hs0.2.1
        have c0 := hs0.2.2 0 (by omega)
        rw [List.getElem?_eq_getElem (show 0 < cs0.length by omega)] at c0
        exact World.cell?_spot (w := W) (a := ⟨b, off, spot⟩) (by simpa [Addr.add] using c0)
      subst hspot
      refine ⟨b, off, rfl, fun i y hy => ?_⟩
      have hi : i < len := by
        have := (List.getElem?_eq_some_iff.1 hy).1
        simpa using this
      have hyF : y = F i := by
        rw [List.getElem?_map, List.getElem?_range hi] at hy
        simpa using hy.symm
      obtain ⟨cs', hr, h1⟩ := hF i hi
      refine ⟨cs', by rw [hyF]; exact hr, fun j u hj => ?_⟩
      have hs := World.cells?_some h1
      have hjl : j < n + 1 := by
        have := (List.getElem?_eq_some_iff.1 hj).1
        have hlen : cs'.length = n + 1 := hs.2.1
        omega
      have hcj := hs.2.2 j hjl
      rw [plus_plain, plus_plain] at hcj
      rw [hcj, ← hj]
    · simp only [List.mem_map, List.mem_range] at hy
      obtain ⟨i, hi, rfl⟩ := hy
      obtain ⟨cs', hr, _⟩ := hF i hi
      exact ⟨cs', hr⟩

theorem wf_inR {x : Int} (h : (Lit.int .i64 x).wf = true) : inR x := by
  simp only [Lit.wf, Bool.and_eq_true, decide_eq_true_eq] at h
  obtain ⟨h1, h2⟩ := h
  have e1 : IntKind.i64.min = -9223372036854775808 := by kernel_rfl
  have e2 : IntKind.i64.max = 9223372036854775807 := by kernel_rfl
  rw [e1] at h1
  rw [e2] at h2
  exact ⟨h1, h2⟩

section
variable {H : Type} {enc : TypeId × Value → H} {W : World} {sp : Nat → Bool} {hd : Bool} {fuel : Nat} {cs : List Value} {x : DataW H × List MemPlace}

set_option maxRecDepth 100000 in
theorem ints_of (h : DataW.trod enc Tryd.prog W 0 sp hd fuel 57 cs = some x) : ∃ (v : Value) (l : List Int), cs = [v] ∧ IntsM W v l ∧ (∀ y ∈ l, inR y) ∧ l.length ≤ maxLen := by
  obtain ⟨v, l, rfl, ⟨a, c, h1, h2, h3⟩, h4, hml⟩ := elems_of (n := 0) (R := fun (y : Int) cs => cs = [.int .i64 y] ∧ inR y) Tryd.underlying57 (by kernel_rfl) (fun fuel cs x h => by
    obtain ⟨y, e, _, hw⟩ := DataW.trod_int Tryd.underlying3 h
    exact ⟨y, e, wf_inR hw⟩) h
  refine ⟨v, l, rfl, ⟨a, c, h1, h2, fun hne => ?_⟩, fun y hy => ?_, hml⟩
  · obtain ⟨g, k, e, h5⟩ := h3 hne
    refine ⟨g, k, e, fun i y hy => ?_⟩
    obtain ⟨cs, ⟨rfl, _⟩, h6⟩ := h5 i y hy
    simpa using h6 0 _ rfl
  · obtain ⟨cs, _, h⟩ := h4 y hy
    exact h
set_option maxRecDepth 100000 in
theorem ins_of (h : DataW.trod enc Tryd.prog W 0 sp hd fuel 60 cs = some x) : ∃ (v : Value) (l : List Cd.Ins), cs = [v] ∧ InssM W v l ∧ (∀ y ∈ l, y.inR) ∧ l.length ≤ maxLen := by
  haveI : Inhabited Cd.Ins := ⟨⟨0, 0, 0, 0⟩⟩
  obtain ⟨v, l, rfl, ⟨a, c, h1, h2, h3⟩, h4, hml⟩ := elems_of (n := 3) (R := fun (y : Cd.Ins) cs => cs = [.int .i64 y.op, .int .i64 y.a, .int .i64 y.b, .int .i64 y.n] ∧ y.inR) Tryd.underlying60 (by kernel_rfl) (fun fuel cs x h => by
    obtain ⟨xs, q, hq, hx, hl, hxl, hf⟩ := DataW.trod_struct Tryd.underlying64 h
    have hl : cs.length = 4 := hl.trans (by kernel_rfl)
    have hc3 : Tryd.prog.cellsOf 3 = 1 := by kernel_rfl
    match xs, hxl, cs, hl with
    | [y0, y1, y2, y3], _, [v0, v1, v2, v3], _ =>
      have g0 := hf 0 _ rfl
      have g1 := hf 1 _ rfl
      have g2 := hf 2 _ rfl
      have g3 := hf 3 _ rfl
      simp [hc3] at g0 g1 g2 g3
      obtain ⟨a0, e0, _, w0⟩ := DataW.trod_int Tryd.underlying3 g0
      obtain ⟨a1, e1, _, w1⟩ := DataW.trod_int Tryd.underlying3 g1
      obtain ⟨a2, e2, _, w2⟩ := DataW.trod_int Tryd.underlying3 g2
      obtain ⟨a3, e3, _, w3⟩ := DataW.trod_int Tryd.underlying3 g3
      simp only [List.cons.injEq, and_true] at e0 e1 e2 e3
      subst e0 e1 e2 e3
      exact ⟨⟨a0, a1, a2, a3⟩, rfl, wf_inR w0, wf_inR w1, wf_inR w2, wf_inR w3⟩) h
  refine ⟨v, l, rfl, ⟨a, c, h1, h2, fun hne => ?_⟩, fun y hy => ?_, hml⟩
  · obtain ⟨g, k, e, h5⟩ := h3 hne
    refine ⟨g, k, e, fun i y hy => ?_⟩
    obtain ⟨cs, ⟨rfl, _⟩, h6⟩ := h5 i y hy
    exact ⟨h6 0 _ rfl, h6 1 _ rfl, h6 2 _ rfl, h6 3 _ rfl⟩
  · obtain ⟨cs, _, h⟩ := h4 y hy
    exact h
set_option maxRecDepth 100000 in
theorem ops_of (h : DataW.trod enc Tryd.prog W 0 sp hd fuel 22 cs = some x) : ∃ (v : Value) (l : List Cd.Op), cs = [v] ∧ OpsM W v l ∧ l.length ≤ maxLen := by
  haveI : Inhabited Cd.Op := ⟨⟨[], false⟩⟩
  obtain ⟨v, l, rfl, ⟨a, c, h1, h2, h3⟩, h4, hml⟩ := elems_of (n := 1) (R := fun (y : Cd.Op) cs => cs = [.string ⟨y.name.toArray⟩, .bool y.once]) Tryd.underlying22 (by kernel_rfl) (fun fuel cs x h => by
    obtain ⟨xs, q, hq, hx, hl, hxl, hf⟩ := DataW.trod_struct Tryd.underlying56 h
    have hl : cs.length = 2 := hl.trans (by kernel_rfl)
    have hc9 : Tryd.prog.cellsOf 9 = 1 := by kernel_rfl
    have hc4 : Tryd.prog.cellsOf 4 = 1 := by kernel_rfl
    match xs, hxl, cs, hl with
    | [y0, y1], _, [v0, v1], _ =>
      have g0 := hf 0 _ rfl
      have g1 := hf 1 _ rfl
      simp [hc9, hc4] at g0 g1
      obtain ⟨a0, e0, _, _⟩ := DataW.trod_string Tryd.underlying9 g0
      obtain ⟨a1, e1, _⟩ := DataW.trod_bool Tryd.underlying4 g1
      simp only [List.cons.injEq, and_true] at e0 e1
      subst e0 e1
      exact ⟨⟨a0.data.toList, a1⟩, rfl⟩) h
  refine ⟨v, l, rfl, ⟨a, c, h1, h2, fun hne => ?_⟩, hml⟩
  obtain ⟨g, k, e, h5⟩ := h3 hne
  refine ⟨g, k, e, fun i y hy => ?_⟩
  obtain ⟨cs, rfl, h6⟩ := h5 i y hy
  exact ⟨h6 0 _ rfl, h6 1 _ rfl⟩
set_option maxRecDepth 100000 in
theorem hans_of (h : DataW.trod enc Tryd.prog W 0 sp hd fuel 23 cs = some x) : ∃ (v : Value) (l : List Cd.Han), cs = [v] ∧ HansM W v l ∧ (∀ y ∈ l, (∀ z ∈ y.ops, inR z) ∧ y.ops.length ≤ maxLen) ∧ l.length ≤ maxLen := by
  haveI : Inhabited Cd.Han := ⟨⟨false, []⟩⟩
  obtain ⟨v, l, rfl, ⟨a, c, h1, h2, h3⟩, h4, hml⟩ := elems_of (n := 1) (R := fun (y : Cd.Han) cs => ∃ u, cs = [.bool y.shallow, u] ∧ IntsM W u y.ops ∧ (∀ z ∈ y.ops, inR z) ∧ y.ops.length ≤ maxLen) Tryd.underlying23 (by kernel_rfl) (fun fuel cs x h => by
    obtain ⟨xs, q, hq, hx, hl, hxl, hf⟩ := DataW.trod_struct Tryd.underlying59 h
    have hl : cs.length = 2 := hl.trans (by kernel_rfl)
    have hc4 : Tryd.prog.cellsOf 4 = 1 := by kernel_rfl
    have hc8 : Tryd.prog.cellsOf 57 = 1 := by kernel_rfl
    match xs, hxl, cs, hl with
    | [y0, y1], _, [v0, v1], _ =>
      have g0 := hf 0 _ rfl
      have g1 := hf 1 _ rfl
      simp [hc8, hc4] at g0 g1
      obtain ⟨a0, e0, _⟩ := DataW.trod_bool Tryd.underlying4 g0
      obtain ⟨u, l, e1, m1, m2⟩ := ints_of g1
      simp only [List.cons.injEq, and_true] at e0 e1
      subst e0 e1
      exact ⟨⟨a0, l⟩, _, rfl, m1, m2⟩) h
  refine ⟨v, l, rfl, ⟨a, c, h1, h2, fun hne => ?_⟩, fun y hy => ?_, hml⟩
  · obtain ⟨g, k, e, h5⟩ := h3 hne
    refine ⟨g, k, e, fun i y hy => ?_⟩
    obtain ⟨cs, ⟨u, rfl, m1, _⟩, h6⟩ := h5 i y hy
    exact ⟨h6 0 _ rfl, u, h6 1 _ rfl, m1⟩
  · obtain ⟨cs, u, _, _, h⟩ := h4 y hy
    exact h
set_option maxRecDepth 100000 in
theorem funs_of (h : DataW.trod enc Tryd.prog W 0 sp hd fuel 24 cs = some x) : ∃ (v : Value) (l : List Cd.Fun), cs = [v] ∧ FunsM W v l ∧ (∀ y ∈ l, y.inR ∧ y.ins.length ≤ maxLen) ∧ l.length ≤ maxLen := by
  haveI : Inhabited Cd.Fun := ⟨⟨0, 0, []⟩⟩
  obtain ⟨v, l, rfl, ⟨a, c, h1, h2, h3⟩, h4, hml⟩ := elems_of (n := 2) (R := fun (y : Cd.Fun) cs => ∃ u, cs = [.int .i64 y.free, .int .i64 y.slots, u] ∧ InssM W u y.ins ∧ y.inR ∧ y.ins.length ≤ maxLen) Tryd.underlying24 (by kernel_rfl) (fun fuel cs x h => by
    obtain ⟨xs, q, hq, hx, hl, hxl, hf⟩ := DataW.trod_struct Tryd.underlying62 h
    have hl : cs.length = 3 := hl.trans (by kernel_rfl)
    have hc3 : Tryd.prog.cellsOf 3 = 1 := by kernel_rfl
    have hc8 : Tryd.prog.cellsOf 60 = 1 := by kernel_rfl
    match xs, hxl, cs, hl with
    | [y0, y1, y2], _, [v0, v1, v2], _ =>
      have g0 := hf 0 _ rfl
      have g1 := hf 1 _ rfl
      have g2 := hf 2 _ rfl
      simp [hc8, hc3] at g0 g1 g2
      obtain ⟨a0, e0, _, w0⟩ := DataW.trod_int Tryd.underlying3 g0
      obtain ⟨a1, e1, _, w1⟩ := DataW.trod_int Tryd.underlying3 g1
      obtain ⟨u, l, e2, m1, m2, m3⟩ := ins_of g2
      simp only [List.cons.injEq, and_true] at e0 e1 e2
      subst e0 e1 e2
      exact ⟨⟨a0, a1, l⟩, _, rfl, m1, ⟨wf_inR w0, wf_inR w1, m2⟩, m3⟩) h
  refine ⟨v, l, rfl, ⟨a, c, h1, h2, fun hne => ?_⟩, fun y hy => ?_, hml⟩
  · obtain ⟨g, k, e, h5⟩ := h3 hne
    refine ⟨g, k, e, fun i y hy => ?_⟩
    obtain ⟨cs, ⟨u, rfl, m1, _⟩, h6⟩ := h5 i y hy
    exact ⟨h6 0 _ rfl, h6 1 _ rfl, u, h6 2 _ rfl, m1⟩
  · obtain ⟨cs, u, _, _, h⟩ := h4 y hy
    exact h
set_option maxRecDepth 100000 in
theorem code_of (h : DataW.trod enc Tryd.prog W 0 sp hd fuel 26 cs = some x) : ∃ (C : Cd.Code) (b c d : Value), cs = [.string ⟨C.shape.toArray⟩, b, c, d] ∧ CodeM W b c d C ∧ C.inR ∧ C.shape.length ≤ maxLen ∧ C.lens := by
  obtain ⟨xs, q, hq, hx, hl, hxl, hf⟩ := DataW.trod_struct Tryd.underlying26 h
  have hl : cs.length = 4 := hl.trans (by kernel_rfl)
  have hc0 : Tryd.prog.cellsOf 9 = 1 := by kernel_rfl
  have hc1 : Tryd.prog.cellsOf 22 = 1 := by kernel_rfl
  have hc2 : Tryd.prog.cellsOf 23 = 1 := by kernel_rfl
  have hc3 : Tryd.prog.cellsOf 24 = 1 := by kernel_rfl
  match xs, hxl, cs, hl with
  | [y0, y1, y2, y3], _, [v0, v1, v2, v3], _ =>
    have g0 := hf 0 _ rfl
    have g1 := hf 1 _ rfl
    have g2 := hf 2 _ rfl
    have g3 := hf 3 _ rfl
    simp [hc0, hc1, hc2, hc3] at g0 g1 g2 g3
    obtain ⟨s, e0, _, hs⟩ := DataW.trod_string Tryd.underlying9 g0
    obtain ⟨u1, l1, e1, m1, n1⟩ := ops_of g1
    obtain ⟨u2, l2, e2, m2, i2, n2⟩ := hans_of g2
    obtain ⟨u3, l3, e3, m3, i3, n3⟩ := funs_of g3
    simp only [List.cons.injEq, and_true] at e0 e1 e2 e3
    subst e0 e1 e2 e3
    exact ⟨⟨s.data.toList, l1, l2, l3⟩, _, _, _, rfl, ⟨m1, m2, m3⟩, ⟨fun y hy => (i2 y hy).1, fun y hy => (i3 y hy).1⟩, hs, n1, n2, n3, fun y hy => (i2 y hy).2, fun y hy => (i3 y hy).2⟩
end
end Go.Proofs.YticmoofjjikefaaDoor
