/-
  What an argument of the type api.Type reads as is a type in memory, to whatever depth.
-/
import Derived.Test.YtkpfadapgjijgabDoorRows
import Derived.Test.YtkpfadapgjijgabDoorLaw
import Derived.ProofKit
import Derived.Deep.Strs
import Derived.Deep.Slices
namespace Go.Proofs.YtkpfadapgjijgabDoor
open Go.RowKit Go.Deep Go.WideShapes

theorem bulk_part {H : Type} {d : DataW H} {l : List (DataW H)} (h : d ∈ l) : Rows.uptoBulk d ≤ Rows.uptoBulkAll l := by
  induction l with
  | nil => cases h
  | cons x r ih =>
    simp only [Rows.uptoBulkAll]
    cases List.mem_cons.1 h with
    | inl e => subst e; omega
    | inr e => have := ih e; omega

theorem cells25 : Tryd.prog.cellsOf 25 = 5 := by kernel_rfl
theorem cells9 : Tryd.prog.cellsOf 9 = 1 := by kernel_rfl
theorem cells3 : Tryd.prog.cellsOf 3 = 1 := by kernel_rfl
theorem cells22 : Tryd.prog.cellsOf 22 = 1 := by kernel_rfl
theorem cells23 : Tryd.prog.cellsOf 23 = 1 := by kernel_rfl

theorem rdb_of_trod {H : Type} {enc : TypeId × Value → H} {W : World} {sp : Nat → Bool} {hd : Bool} : ∀ (n fuel : Nat) (cs : List Value) (x : DataW H × List MemPlace),
    DataW.trod enc Tryd.prog W 0 sp hd fuel 25 cs = some x → Rows.uptoBulk x.1 ≤ 1048576 → ∃ (k m r : Int) (os az : Value), cs = [.int .i64 k, .int .i64 m, .int .i64 r, os, az] ∧ Rdb W n os az := by
  intro n
  induction n with
  | zero =>
    intro fuel cs x h hb
    obtain ⟨xs, q, hq, hx, hl, hxl, hf⟩ := DataW.trod_struct Tryd.underlying25 h
    rw [cells25] at hl
    match xs, hxl, cs, hl with
    | [y0, y1, y2, y3, y4], _, [v0, v1, v2, v3, v4], _ =>
      have g0 := hf 0 _ rfl
      have g1 := hf 1 _ rfl
      have g2 := hf 2 _ rfl
      simp [cells3] at g0 g1 g2
      obtain ⟨k, e0, _⟩ := DataW.trod_int Tryd.underlying3 g0
      obtain ⟨m, e1, _⟩ := DataW.trod_int Tryd.underlying3 g1
      obtain ⟨r, e2, _⟩ := DataW.trod_int Tryd.underlying3 g2
      simp only [List.cons.injEq, and_true] at e0 e1 e2
      subst e0 e1 e2
      exact ⟨k, m, r, v3, v4, rfl, trivial⟩
  | succ n ih =>
    intro fuel cs x h hb
    obtain ⟨xs, q, hq, hx, hl, hxl, hf⟩ := DataW.trod_struct Tryd.underlying25 h
    rw [cells25] at hl
    match xs, hxl, cs, hl with
    | [y0, y1, y2, y3, y4], _, [v0, v1, v2, v3, v4], _ =>
      have g0 := hf 0 _ rfl
      have g1 := hf 1 _ rfl
      have g2 := hf 2 _ rfl
      have g3 := hf 3 _ rfl
      have g4 := hf 4 _ rfl
      simp [cells3, cells22, cells23] at g0 g1 g2 g3 g4
      obtain ⟨k, e0, _⟩ := DataW.trod_int Tryd.underlying3 g0
      obtain ⟨m, e1, _⟩ := DataW.trod_int Tryd.underlying3 g1
      obtain ⟨r, e2, _⟩ := DataW.trod_int Tryd.underlying3 g2
      simp only [List.cons.injEq, and_true] at e0 e1 e2
      subst e0 e1 e2
      have hbx : Rows.uptoBulk x.1 = Rows.uptoBulkAll [y0.1, y1.1, y2.1, y3.1, y4.1] + 1 := by rw [hx]; simp [Rows.uptoBulk]
      have hb3 : Rows.uptoBulk y3.1 ≤ 1048576 := by have := bulk_part (d := y3.1) (l := [y0.1, y1.1, y2.1, y3.1, y4.1]) (by simp); omega
      have hb4 : Rows.uptoBulk y4.1 ≤ 1048576 := by have := bulk_part (d := y4.1) (l := [y0.1, y1.1, y2.1, y3.1, y4.1]) (by simp); omega
      refine ⟨k, m, r, v3, v4, rfl, ?_, ?_⟩
      · rcases open_strs Tryd.underlying22 Tryd.underlying9 cells9 g3 with ⟨hc, _⟩ | ⟨a, len, cap, mm, Sx, hc, _, hlc, _, hmm, hxx, hcell⟩
        · simp only [List.cons.injEq, and_true] at hc
          exact ⟨[], ⟨none, 0, by simpa using hc, Nat.le_refl _, fun h => absurd rfl h⟩, fun x hx => by simp at hx⟩
        · simp only [List.cons.injEq, and_true] at hc
          have hlm : len ≤ mm := by rw [hmm]; split <;> omega
          refine ⟨(List.range len).map fun i => (Sx i).data.toList, ⟨some a, cap, by simpa using hc, by simpa using hlc, fun h0 => ?_⟩, fun x hx => ?_⟩
          · have hlen : 0 < len := by
              rcases Nat.eq_zero_or_pos len with h | h
              · subst h; simp at h0
              · exact h
            obtain ⟨b, off, spot⟩ := a
            have c0 := (hcell 0 (by omega)).1
            have hspot : spot = none := by simpa [Addr.add] using World.cell?_spot c0
            subst hspot
            refine ⟨b, off, rfl, fun i hi => ?_⟩
            have hi2 : i < len := by simpa using hi
            have := (hcell i (by omega)).1
            rw [add_plain] at this
            rw [this]
            simp
          · simp only [List.mem_map, List.mem_range] at hx
            obtain ⟨i, hi, rfl⟩ := hx
            have h1 : Rows.uptoBulkAll ((List.range len).map fun i => DataW.lit (H := H) (.string (Sx i).data.toList)) + 1 ≤ Rows.uptoBulk y3.1 := by rw [hxx]; simp only [Rows.uptoBulk]; omega
            have h2 := bulk_part (d := DataW.lit (H := H) (.string (Sx i).data.toList)) (l := (List.range len).map fun i => DataW.lit (H := H) (.string (Sx i).data.toList)) (List.mem_map.2 ⟨i, List.mem_range.2 hi, rfl⟩)
            have h3 : Rows.uptoBulk (DataW.lit (H := H) (.string (Sx i).data.toList)) = (Sx i).data.toList.length + 1 := by simp [Rows.uptoBulk]
            omega
      · rcases open_slice Tryd.underlying23 g4 with ⟨hc, _⟩ | ⟨a, len, cap, mm, nn, D, Pl, hc, _, hlc, _, hmm, hxx, hcell⟩
        · simp only [List.cons.injEq, and_true] at hc
          exact ⟨none, 0, 0, hc, Nat.le_refl _, fun h => absurd rfl h⟩
        · simp only [List.cons.injEq, and_true] at hc
          have hlm : len ≤ mm := by rw [hmm]; split <;> omega
          refine ⟨some a, len, cap, hc, hlc, fun h0 => ?_⟩
          rw [cells25] at hcell
          have each : ∀ i, i < len → ∃ (k m r : Int) (os az : Value), W.cells? 0 (a.add (i * 5)) 5 = some [.int .i64 k, .int .i64 m, .int .i64 r, os, az] ∧ Rdb W n os az := by
            intro i hi
            obtain ⟨cs', h1, h2⟩ := hcell i (by omega)
            have hbi : Rows.uptoBulk (D i) ≤ 1048576 := by
              have h3 : Rows.uptoBulkAll ((List.range len).map D) + 1 ≤ Rows.uptoBulk y4.1 := by rw [hxx]; simp only [Rows.uptoBulk]; omega
              have h4 := bulk_part (d := D i) (l := (List.range len).map D) (List.mem_map.2 ⟨i, List.mem_range.2 hi, rfl⟩)
              omega
            obtain ⟨k, m, r, os, az, rfl, hr⟩ := ih nn cs' (D i, Pl i) h2 hbi
            exact ⟨k, m, r, os, az, h1, hr⟩
          obtain ⟨b, off, spot⟩ := a
          obtain ⟨k0, m0, r0, os0, az0, h00, _⟩ := each 0 (by omega)
          have c0 := (World.cells?_some h00).2.2 0 (by omega)
          have hspot : spot = none := by
            have : W.cell? (⟨b, off, spot⟩ : Addr) = some (.int .i64 k0) := by simpa [Addr.add] using c0
            simpa using World.cell?_spot this
          subst hspot
          refine ⟨b, off, rfl, fun i hi => ?_⟩
          obtain ⟨k, m, r, os, az, h1, hr⟩ := each i hi
          refine ⟨k, m, r, os, az, ?_, hr⟩
          have hcs := (World.cells?_some h1).2.2
          rw [add_plain] at hcs
          have q0 := hcs 0 (by omega)
          have q1 := hcs 1 (by omega)
          have q2 := hcs 2 (by omega)
          have q3 := hcs 3 (by omega)
          have q4 := hcs 4 (by omega)
          rw [add_plain] at q0 q1 q2 q3 q4
          exact ⟨by simpa using q0, by simpa using q1, by simpa using q2, by simpa using q3, by simpa using q4⟩
end Go.Proofs.YtkpfadapgjijgabDoor
