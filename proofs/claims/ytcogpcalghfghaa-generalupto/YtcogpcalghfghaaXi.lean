/-
  What the arguments of General read as, in memory.
-/
import Derived.Test.YtcogpcalghfghaaRows
import Derived.Test.YtcogpcalghfghaaXh
import Derived.ProofKit
import Derived.Deep.Strs
import Derived.Deep.Slices
set_option linter.unusedVariables false
set_option linter.unusedSimpArgs false
namespace Go.Proofs.Ytcogpcalghfghaa
open Go.RowKit Go.Deep Go.WideShapes
set_option maxRecDepth 100000
theorem lenOK {len cap : Nat} (h : len ≤ cap) (h2 : cap ≤ maxLen) : len ≤ 9223372036854775807 := by
  have : maxLen = 9223372036854775807 := by decide
  omega
theorem bulk_part {H : Type} {d : DataW H} {l : List (DataW H)} (h : d ∈ l) : Rows.uptoBulk d ≤ Rows.uptoBulkAll l := by
  induction l with
  | nil => cases h
  | cons x r ih =>
    simp only [Rows.uptoBulkAll]
    cases List.mem_cons.1 h with
    | inl e => subst e; omega
    | inr e => have := ih e; omega

theorem bulk_len {H : Type} (l : List (DataW H)) : l.length ≤ Rows.uptoBulkAll l := by
  induction l with
  | nil => simp
  | cons d r ih =>
    have : 1 ≤ Rows.uptoBulk d := by
      cases d with
      | lit v => cases v <;> simp [Rows.uptoBulk]
      | _ => simp [Rows.uptoBulk]
    simp only [Rows.uptoBulkAll, List.length_cons]
    omega
theorem cellsT : Try.prog.cellsOf 27 = 5 := by kernel_rfl
theorem cells9 : Try.prog.cellsOf 9 = 1 := by kernel_rfl
theorem cells3 : Try.prog.cellsOf 3 = 1 := by kernel_rfl
theorem cellsS : Try.prog.cellsOf 24 = 1 := by kernel_rfl
theorem cellsTs : Try.prog.cellsOf 25 = 1 := by kernel_rfl

theorem rdc_of_trod {H : Type} {enc : TypeId × Value → H} {W : World} {sp : Nat → Bool} {hd : Bool} : ∀ (n fuel : Nat) (cs : List Value) (x : DataW H × List MemPlace),
    DataW.trod enc Try.prog W 0 sp hd fuel 27 cs = some x → ∃ (k m r : Int) (os az : Value), cs = [.int .i64 k, .int .i64 m, .int .i64 r, os, az] ∧ Rdc W n os az := by
  intro n
  induction n with
  | zero =>
    intro fuel cs x h
    obtain ⟨xs, q, hq, hx, hl, hxl, hf⟩ := DataW.trod_struct Try.underlying27 h
    rw [cellsT] at hl
    match xs, hxl, cs, hl with
    | [y0, y1, y2, y3, y4], _, [v0, v1, v2, v3, v4], _ =>
      have g0 := hf 0 _ rfl
      have g1 := hf 1 _ rfl
      have g2 := hf 2 _ rfl
      simp [cells3] at g0 g1 g2
      obtain ⟨k, e0, _⟩ := DataW.trod_int Try.underlying3 g0
      obtain ⟨m, e1, _⟩ := DataW.trod_int Try.underlying3 g1
      obtain ⟨r, e2, _⟩ := DataW.trod_int Try.underlying3 g2
      simp only [List.cons.injEq, and_true] at e0 e1 e2
      subst e0 e1 e2
      exact ⟨k, m, r, v3, v4, rfl, trivial⟩
  | succ n ih =>
    intro fuel cs x h
    obtain ⟨xs, q, hq, hx, hl, hxl, hf⟩ := DataW.trod_struct Try.underlying27 h
    rw [cellsT] at hl
    match xs, hxl, cs, hl with
    | [y0, y1, y2, y3, y4], _, [v0, v1, v2, v3, v4], _ =>
      have g0 := hf 0 _ rfl
      have g1 := hf 1 _ rfl
      have g2 := hf 2 _ rfl
      have g3 := hf 3 _ rfl
      have g4 := hf 4 _ rfl
      simp [cells3, cellsS, cellsTs] at g0 g1 g2 g3 g4
      obtain ⟨k, e0, _⟩ := DataW.trod_int Try.underlying3 g0
      obtain ⟨m, e1, _⟩ := DataW.trod_int Try.underlying3 g1
      obtain ⟨r, e2, _⟩ := DataW.trod_int Try.underlying3 g2
      simp only [List.cons.injEq, and_true] at e0 e1 e2
      subst e0 e1 e2
      refine ⟨k, m, r, v3, v4, rfl, ?_, ?_⟩
      · rcases open_strs Try.underlying24 Try.underlying9 cells9 g3 with ⟨hc, _⟩ | ⟨a, len, cap, mm, Sx, hc, _, hlc, hmx, hmm, hxx, hcell⟩
        · simp only [List.cons.injEq, and_true] at hc
          exact ⟨[], ⟨none, 0, by simpa using hc, Nat.le_refl _, fun h => absurd rfl h⟩, Nat.zero_le _⟩
        · simp only [List.cons.injEq, and_true] at hc
          have hlm : len ≤ mm := by rw [hmm]; split <;> omega
          refine ⟨(List.range len).map fun i => (Sx i).data.toList, ⟨some a, cap, by simpa using hc, by simpa using hlc, fun h0 => ?_⟩, ?_⟩
          · have hlen : 0 < len := by
              rcases Nat.eq_zero_or_pos len with h | h
              · subst h; simp at h0
              · exact h
            obtain ⟨b, off, spot⟩ := a
            have c0 := (hcell 0 (by omega)).1
            have hspot : spot = none := by simpa [Addr.add] using World.cell?_spot c0
            subst hspot
            refine ⟨b, off, rfl, fun i hi => ?_⟩
            have hi2 : i < len := by simpa using hi
            have := (hcell i (by omega)).1
            rw [add_plain] at this
            rw [this]
            simp
          · have : maxLen = 9223372036854775807 := by decide
            simp
            omega
      · rcases open_slice Try.underlying25 g4 with ⟨hc, _⟩ | ⟨a, len, cap, mm, nn, D, Pl, hc, _, hlc, _, hmm, hxx, hcell⟩
        · simp only [List.cons.injEq, and_true] at hc
          exact ⟨none, 0, 0, hc, Nat.le_refl _, fun h => absurd rfl h⟩
        · simp only [List.cons.injEq, and_true] at hc
          have hlm : len ≤ mm := by rw [hmm]; split <;> omega
          refine ⟨some a, len, cap, hc, hlc, fun h0 => ?_⟩
          rw [cellsT] at hcell
          have each : ∀ i, i < len → ∃ (k m r : Int) (os az : Value), W.cells? 0 (a.add (i * 5)) 5 = some [.int .i64 k, .int .i64 m, .int .i64 r, os, az] ∧ Rdc W n os az := by
            intro i hi
            obtain ⟨cs', h1, h2⟩ := hcell i (by omega)
            obtain ⟨k, m, r, os, az, rfl, hr⟩ := ih nn cs' (D i, Pl i) h2
            exact ⟨k, m, r, os, az, h1, hr⟩
          obtain ⟨b, off, spot⟩ := a
          obtain ⟨k0, m0, r0, os0, az0, h00, _⟩ := each 0 (by omega)
          have c0 := (World.cells?_some h00).2.2 0 (by omega)
          have hspot : spot = none := by
            have : W.cell? (⟨b, off, spot⟩ : Addr) = some (.int .i64 k0) := by simpa [Addr.add] using c0
            simpa using World.cell?_spot this
          subst hspot
          refine ⟨b, off, rfl, fun i hi => ?_⟩
          obtain ⟨k, m, r, os, az, h1, hr⟩ := each i hi
          refine ⟨k, m, r, os, az, ?_, hr⟩
          have hcs := (World.cells?_some h1).2.2
          rw [add_plain] at hcs
          have q0 := hcs 0 (by omega)
          have q1 := hcs 1 (by omega)
          have q2 := hcs 2 (by omega)
          have q3 := hcs 3 (by omega)
          have q4 := hcs 4 (by omega)
          rw [add_plain] at q0 q1 q2 q3 q4
          exact ⟨by simpa using q0, by simpa using q1, by simpa using q2, by simpa using q3, by simpa using q4⟩
theorem cellsPair : Try.prog.cellsOf 34 = 10 := by kernel_rfl
/-- What the argument reads as lies in memory as the walk wants it. -/
theorem arg_of {H : Type} {enc : TypeId × Value → H} {W : World} {sp : Nat → Bool} {hd : Bool} {fuel : Nat} {cs : List Value} {x : DataW H × List MemPlace} (h : DataW.trod enc Try.prog W 0 sp hd fuel 22 cs = some x) :
    ∃ la ln lc g o A B, cs = [.slice la ln lc] ∧ (ln ≠ 0 → la = some ⟨g, o, none⟩) ∧ PrC W g o ln A B := by
  rcases open_slice Try.underlying22 h with ⟨hcs, _⟩ | ⟨a, len, cap, mm, nn, D, Pl, hcs, _, hlc, _, hmm, _, hcell⟩
  · exact ⟨none, 0, 0, 0, 0, fun _ => ⟨0, 0, 0, .slice none 0 0, .slice none 0 0⟩, fun _ => ⟨0, 0, 0, .slice none 0 0, .slice none 0 0⟩, hcs, fun h => absurd rfl h, ⟨fun i hi => by omega, fun i hi => by omega⟩⟩
  · have hlm : len ≤ mm := by rw [hmm]; split <;> omega
    rw [cellsPair] at hcell
    have each : ∀ i, i < len → ∃ X Y : Raw, W.cells? 0 (a.add (i * 10)) 10 = some [.int .i64 X.k, .int .i64 X.n, .int .i64 X.r, X.os, X.az, .int .i64 Y.k, .int .i64 Y.n, .int .i64 Y.r, Y.os, Y.az] ∧ Rdc W 301 X.os X.az ∧ Rdc W 301 Y.os Y.az := by
      intro i hi
      obtain ⟨cs', h1, h2⟩ := hcell i (by omega)
      obtain ⟨xs, q, hq, hx, hl, hxl, hf⟩ := DataW.trod_struct Try.underlying34 h2
      rw [cellsPair] at hl
      match xs, hxl, cs', hl with
      | [y0, y1], _, [v0, v1, v2, v3, v4, v5, v6, v7, v8, v9], _ =>
        have g0 := hf 0 _ rfl
        have g1 := hf 1 _ rfl
        simp [cellsT] at g0 g1
        obtain ⟨k, m, r, os, az, e0, h3⟩ := rdc_of_trod 301 _ _ _ g0
        obtain ⟨k', m', r', os', az', e1, h4⟩ := rdc_of_trod 301 _ _ _ g1
        simp only [List.cons.injEq, and_true] at e0 e1
        obtain ⟨rfl, rfl, rfl, rfl, rfl⟩ := e0
        obtain ⟨rfl, rfl, rfl, rfl, rfl⟩ := e1
        exact ⟨⟨k, m, r, v3, v4⟩, ⟨k', m', r', v8, v9⟩, h1, h3, h4⟩
    by_cases h0 : len = 0
    · subst h0
      exact ⟨some a, 0, cap, 0, 0, fun _ => ⟨0, 0, 0, .slice none 0 0, .slice none 0 0⟩, fun _ => ⟨0, 0, 0, .slice none 0 0, .slice none 0 0⟩, hcs, fun h => absurd rfl h, ⟨fun i hi => by omega, fun i hi => by omega⟩⟩
    obtain ⟨b, off, spot⟩ := a
    obtain ⟨X0, Y0, h00, _⟩ := each 0 (by omega)
    have c0 := (World.cells?_some h00).2.2 0 (by omega)
    have hspot : spot = none := by
      have : W.cell? (⟨b, off, spot⟩ : Addr) = some (.int .i64 X0.k) := by simpa [Addr.add] using c0
      simpa using World.cell?_spot this
    subst hspot
    have pick : ∃ A B : Nat → Raw, ∀ i, i < len → W.cells? 0 (Addr.add ⟨b, off, none⟩ (i * 10)) 10 = some [.int .i64 (A i).k, .int .i64 (A i).n, .int .i64 (A i).r, (A i).os, (A i).az, .int .i64 (B i).k, .int .i64 (B i).n, .int .i64 (B i).r, (B i).os, (B i).az] ∧ Rdc W 301 (A i).os (A i).az ∧ Rdc W 301 (B i).os (B i).az := by
      refine ⟨fun i => if h : i < len then Classical.choose (each i h) else X0, fun i => if h : i < len then Classical.choose (Classical.choose_spec (each i h)) else X0, fun i hi => ?_⟩
      simp only [dif_pos hi]
      exact Classical.choose_spec (Classical.choose_spec (each i hi))
    obtain ⟨A, B, hAB⟩ := pick
    refine ⟨some ⟨b, off, none⟩, len, cap, b, off, A, B, hcs, fun _ => rfl, ⟨fun i hi => ?_, fun i hi => ?_⟩⟩
    · obtain ⟨h1, h2, h3⟩ := hAB i hi
      have hcs := (World.cells?_some h1).2.2
      rw [add_plain] at hcs
      have q0 := hcs 0 (by omega)
      have q1 := hcs 1 (by omega)
      have q2 := hcs 2 (by omega)
      have q3 := hcs 3 (by omega)
      have q4 := hcs 4 (by omega)
      rw [add_plain] at q0 q1 q2 q3 q4
      exact ⟨⟨by simpa using q0, by simpa using q1, by simpa using q2, by simpa using q3, by simpa using q4⟩, h2⟩
    · obtain ⟨h1, h2, h3⟩ := hAB i hi
      have hcs := (World.cells?_some h1).2.2
      rw [add_plain] at hcs
      have q0 := hcs 5 (by omega)
      have q1 := hcs 6 (by omega)
      have q2 := hcs 7 (by omega)
      have q3 := hcs 8 (by omega)
      have q4 := hcs 9 (by omega)
      rw [add_plain] at q0 q1 q2 q3 q4
      exact ⟨⟨by simpa using q0, by simpa [Nat.add_assoc] using q1, by simpa [Nat.add_assoc] using q2, by simpa [Nat.add_assoc] using q3, by simpa [Nat.add_assoc] using q4⟩, h3⟩
theorem rdd_of_trod {H : Type} {enc : TypeId × Value → H} {W : World} {sp : Nat → Bool} {hd : Bool} : ∀ (n fuel : Nat) (cs : List Value) (x : DataW H × List MemPlace),
    DataW.trod enc Try.prog W 0 sp hd fuel 27 cs = some x → Rows.uptoBulk x.1 ≤ n → n ≤ 1048576 → ∃ (k m r : Int) (os az : Value), cs = [.int .i64 k, .int .i64 m, .int .i64 r, os, az] ∧ Rdd W n os az := by
  intro n
  induction n with
  | zero =>
    intro fuel cs x h hb
    obtain ⟨xs, q, hq, hx, hl, hxl, hf⟩ := DataW.trod_struct Try.underlying27 h
    rw [hx] at hb
    simp [Rows.uptoBulk] at hb
  | succ n ih =>
    intro fuel cs x h hb hn
    obtain ⟨xs, q, hq, hx, hl, hxl, hf⟩ := DataW.trod_struct Try.underlying27 h
    rw [cellsT] at hl
    match xs, hxl, cs, hl with
    | [y0, y1, y2, y3, y4], _, [v0, v1, v2, v3, v4], _ =>
      have g0 := hf 0 _ rfl
      have g1 := hf 1 _ rfl
      have g2 := hf 2 _ rfl
      have g3 := hf 3 _ rfl
      have g4 := hf 4 _ rfl
      simp [cells3, cellsS, cellsTs] at g0 g1 g2 g3 g4
      obtain ⟨k, e0, _⟩ := DataW.trod_int Try.underlying3 g0
      obtain ⟨m, e1, _⟩ := DataW.trod_int Try.underlying3 g1
      obtain ⟨r, e2, _⟩ := DataW.trod_int Try.underlying3 g2
      simp only [List.cons.injEq, and_true] at e0 e1 e2
      subst e0 e1 e2
      have hbx : Rows.uptoBulk x.1 = Rows.uptoBulkAll [y0.1, y1.1, y2.1, y3.1, y4.1] + 1 := by rw [hx]; simp [Rows.uptoBulk]
      have hb3 : Rows.uptoBulk y3.1 ≤ n := by have := bulk_part (d := y3.1) (l := [y0.1, y1.1, y2.1, y3.1, y4.1]) (by simp); omega
      have hb4 : Rows.uptoBulk y4.1 ≤ n := by have := bulk_part (d := y4.1) (l := [y0.1, y1.1, y2.1, y3.1, y4.1]) (by simp); omega
      refine ⟨k, m, r, v3, v4, rfl, ?_, ?_⟩
      · rcases open_strs Try.underlying24 Try.underlying9 cells9 g3 with ⟨hc, _⟩ | ⟨a, len, cap, mm, Sx, hc, _, hlc, hmx, hmm, hxx, hcell⟩
        · simp only [List.cons.injEq, and_true] at hc
          exact ⟨[], ⟨none, 0, by simpa using hc, Nat.le_refl _, fun h => absurd rfl h⟩, Nat.zero_le _⟩
        · simp only [List.cons.injEq, and_true] at hc
          have hlm : len ≤ mm := by rw [hmm]; split <;> omega
          refine ⟨(List.range len).map fun i => (Sx i).data.toList, ⟨some a, cap, by simpa using hc, by simpa using hlc, fun h0 => ?_⟩, ?_⟩
          · have hlen : 0 < len := by
              rcases Nat.eq_zero_or_pos len with h | h
              · subst h; simp at h0
              · exact h
            obtain ⟨b, off, spot⟩ := a
            have c0 := (hcell 0 (by omega)).1
            have hspot : spot = none := by simpa [Addr.add] using World.cell?_spot c0
            subst hspot
            refine ⟨b, off, rfl, fun i hi => ?_⟩
            have hi2 : i < len := by simpa using hi
            have := (hcell i (by omega)).1
            rw [add_plain] at this
            rw [this]
            simp
          · have : maxLen = 9223372036854775807 := by decide
            simp
            omega
      · rcases open_slice Try.underlying25 g4 with ⟨hc, _⟩ | ⟨a, len, cap, mm, nn, D, Pl, hc, _, hlc, hmx, hmm, hxx, hcell⟩
        · simp only [List.cons.injEq, and_true] at hc
          exact ⟨none, 0, 0, hc, Nat.le_refl _, Nat.zero_le _, fun h => absurd rfl h⟩
        · simp only [List.cons.injEq, and_true] at hc
          have hlm : len ≤ mm := by rw [hmm]; split <;> omega
          refine ⟨some a, len, cap, hc, hlc, lenOK hlc hmx, fun h0 => ?_⟩
          rw [cellsT] at hcell
          have each : ∀ i, i < len → ∃ (k m r : Int) (os az : Value), W.cells? 0 (a.add (i * 5)) 5 = some [.int .i64 k, .int .i64 m, .int .i64 r, os, az] ∧ Rdd W n os az := by
            intro i hi
            obtain ⟨cs', h1, h2⟩ := hcell i (by omega)
            have hbi : Rows.uptoBulk (D i) ≤ n := by
              have h3 : Rows.uptoBulkAll ((List.range len).map D) + 1 ≤ Rows.uptoBulk y4.1 := by rw [hxx]; simp only [Rows.uptoBulk]; omega
              have h4 := bulk_part (d := D i) (l := (List.range len).map D) (List.mem_map.2 ⟨i, List.mem_range.2 hi, rfl⟩)
              omega
            obtain ⟨k, m, r, os, az, rfl, hr⟩ := ih nn cs' (D i, Pl i) h2 hbi (by omega)
            exact ⟨k, m, r, os, az, h1, hr⟩
          obtain ⟨b, off, spot⟩ := a
          obtain ⟨k0, m0, r0, os0, az0, h00, _⟩ := each 0 (by omega)
          have c0 := (World.cells?_some h00).2.2 0 (by omega)
          have hspot : spot = none := by
            have : W.cell? (⟨b, off, spot⟩ : Addr) = some (.int .i64 k0) := by simpa [Addr.add] using c0
            simpa using World.cell?_spot this
          subst hspot
          refine ⟨b, off, rfl, fun i hi => ?_⟩
          obtain ⟨k, m, r, os, az, h1, hr⟩ := each i hi
          refine ⟨k, m, r, os, az, ?_, hr⟩
          have hcs := (World.cells?_some h1).2.2
          rw [add_plain] at hcs
          have q0 := hcs 0 (by omega)
          have q1 := hcs 1 (by omega)
          have q2 := hcs 2 (by omega)
          have q3 := hcs 3 (by omega)
          have q4 := hcs 4 (by omega)
          rw [add_plain] at q0 q1 q2 q3 q4
          exact ⟨by simpa using q0, by simpa using q1, by simpa using q2, by simpa using q3, by simpa using q4⟩
theorem cellsGiven : Try.prog.cellsOf 58 = 9 := by kernel_rfl
/-- One of the given, as it reads. -/
theorem given_of {H : Type} {enc : TypeId × Value → H} {W : World} {sp : Nat → Bool} {hd : Bool} {fuel : Nat} {cs : List Value} {x : DataW H × List MemPlace} (h : DataW.trod enc Try.prog W 0 sp hd fuel 58 cs = some x) (hb : Rows.uptoBulk x.1 ≤ 1048576) :
    ∃ z : Gv, cs = [.int .i64 z.n, .int .i64 z.t.k, .int .i64 z.t.n, .int .i64 z.t.r, z.t.os, z.t.az, .int .i64 z.row, z.ops, .int .i64 z.more] ∧ Rdd W 1048576 z.t.os z.t.az ∧ OpsV W z.ops z.nm ∧ z.nm.length ≤ 1048576 := by
  obtain ⟨xs, q, hq, hx, hl, hxl, hf⟩ := DataW.trod_struct Try.underlying58 h
  rw [cellsGiven] at hl
  match xs, hxl, cs, hl with
  | [y0, y1, y2, y3, y4], _, [v0, v1, v2, v3, v4, v5, v6, v7, v8], _ =>
    have g0 := hf 0 _ rfl
    have g1 := hf 1 _ rfl
    have g2 := hf 2 _ rfl
    have g3 := hf 3 _ rfl
    have g4 := hf 4 _ rfl
    simp [cells3, cellsS, cellsT] at g0 g1 g2 g3 g4
    obtain ⟨z0, e0, _⟩ := DataW.trod_int Try.underlying3 g0
    obtain ⟨z2, e2, _⟩ := DataW.trod_int Try.underlying3 g2
    obtain ⟨z4, e4, _⟩ := DataW.trod_int Try.underlying3 g4
    simp only [List.cons.injEq, and_true] at e0 e2 e4
    subst e0 e2 e4
    have hbx : Rows.uptoBulk x.1 = Rows.uptoBulkAll [y0.1, y1.1, y2.1, y3.1, y4.1] + 1 := by rw [hx]; simp [Rows.uptoBulk]
    have hb1 : Rows.uptoBulk y1.1 ≤ 1048576 := by have := bulk_part (d := y1.1) (l := [y0.1, y1.1, y2.1, y3.1, y4.1]) (by simp); omega
    have hb3 : Rows.uptoBulk y3.1 ≤ 1048576 := by have := bulk_part (d := y3.1) (l := [y0.1, y1.1, y2.1, y3.1, y4.1]) (by simp); omega
    obtain ⟨k, m, r, os, az, e1, hR⟩ := rdd_of_trod 1048576 _ _ _ g1 hb1 (Nat.le_refl _)
    simp only [List.cons.injEq, and_true] at e1
    obtain ⟨rfl, rfl, rfl, rfl, rfl⟩ := e1
    have hops : ∃ o : List (List UInt8), OpsV W v7 o ∧ o.length ≤ 1048576 := by
      rcases open_strs Try.underlying24 Try.underlying9 cells9 g3 with ⟨hc, _⟩ | ⟨a, len, cap, mm, Sx, hc, _, hlc, hmx, hmm, hxx, hcell⟩
      · simp only [List.cons.injEq, and_true] at hc
        exact ⟨[], ⟨none, 0, by simpa using hc, Nat.le_refl _, fun h => absurd rfl h⟩, Nat.zero_le _⟩
      · simp only [List.cons.injEq, and_true] at hc
        have hlm : len ≤ mm := by rw [hmm]; split <;> omega
        refine ⟨(List.range len).map fun i => (Sx i).data.toList, ⟨some a, cap, by simpa using hc, by simpa using hlc, fun h0 => ?_⟩, ?_⟩
        · have hlen : 0 < len := by
            rcases Nat.eq_zero_or_pos len with h | h
            · subst h; simp at h0
            · exact h
          obtain ⟨b, off, spot⟩ := a
          have c0 := (hcell 0 (by omega)).1
          have hspot : spot = none := by simpa [Addr.add] using World.cell?_spot c0
          subst hspot
          refine ⟨b, off, rfl, fun i hi => ?_⟩
          have hi2 : i < len := by simpa using hi
          have := (hcell i (by omega)).1
          rw [add_plain] at this
          rw [this]
          simp
        · have h1 : Rows.uptoBulkAll ((List.range len).map fun i => DataW.lit (H := H) (.string (Sx i).data.toList)) + 1 ≤ Rows.uptoBulk y3.1 := by rw [hxx]; simp only [Rows.uptoBulk]; omega
          have h2 := bulk_len ((List.range len).map fun i => DataW.lit (H := H) (.string (Sx i).data.toList))
          simp at h2 ⊢
          omega
    obtain ⟨nm, hn1, hn2⟩ := hops
    exact ⟨⟨z0, ⟨k, m, r, v4, v5⟩, z2, v7, z4, nm⟩, rfl, hR, hn1, hn2⟩
/-- All that is given, as it reads. -/
theorem givens_of {H : Type} {enc : TypeId × Value → H} {W : World} {sp : Nat → Bool} {hd : Bool} {fuel : Nat} {cs : List Value} {x : DataW H × List MemPlace} (h : DataW.trod enc Try.prog W 0 sp hd fuel 23 cs = some x) (hb : Rows.uptoBulk x.1 ≤ 1048576) :
    ∃ la ln lc g o Z, cs = [.slice la ln lc] ∧ (ln ≠ 0 → la = some ⟨g, o, none⟩) ∧ GvM W 1048576 g o ln Z := by
  have z0 : Gv := ⟨0, ⟨0, 0, 0, .slice none 0 0, .slice none 0 0⟩, 0, .slice none 0 0, 0, []⟩
  rcases open_slice Try.underlying23 h with ⟨hcs, _⟩ | ⟨a, len, cap, mm, nn, D, Pl, hcs, _, hlc, _, hmm, hxx, hcell⟩
  · exact ⟨none, 0, 0, 0, 0, fun _ => z0, hcs, fun h => absurd rfl h, ⟨fun i hi => by omega, fun i hi => by omega, fun i hi => by omega, fun i hi => by omega, by omega⟩⟩
  · have hlm : len ≤ mm := by rw [hmm]; split <;> omega
    rw [cellsGiven] at hcell
    have h3 : Rows.uptoBulkAll ((List.range len).map D) + 1 ≤ Rows.uptoBulk x.1 := by rw [hxx]; simp only [Rows.uptoBulk]; omega
    have hlen : len ≤ 1048576 := by
      have h2 := bulk_len ((List.range len).map D)
      simp at h2
      omega
    have each : ∀ i, i < len → ∃ z : Gv, W.cells? 0 (a.add (i * 9)) 9 = some [.int .i64 z.n, .int .i64 z.t.k, .int .i64 z.t.n, .int .i64 z.t.r, z.t.os, z.t.az, .int .i64 z.row, z.ops, .int .i64 z.more] ∧ Rdd W 1048576 z.t.os z.t.az ∧ OpsV W z.ops z.nm ∧ z.nm.length ≤ 1048576 := by
      intro i hi
      obtain ⟨cs', h1, h2⟩ := hcell i (by omega)
      have h4 := bulk_part (d := D i) (l := (List.range len).map D) (List.mem_map.2 ⟨i, List.mem_range.2 hi, rfl⟩)
      obtain ⟨z, rfl, hz⟩ := given_of h2 (by show Rows.uptoBulk (D i) ≤ _; omega)
      exact ⟨z, h1, hz⟩
    by_cases h0 : len = 0
    · subst h0
      exact ⟨some a, 0, cap, 0, 0, fun _ => z0, hcs, fun h => absurd rfl h, ⟨fun i hi => by omega, fun i hi => by omega, fun i hi => by omega, fun i hi => by omega, by omega⟩⟩
    obtain ⟨b, off, spot⟩ := a
    obtain ⟨X0, h00, _⟩ := each 0 (by omega)
    have c0 := (World.cells?_some h00).2.2 0 (by omega)
    have hspot : spot = none := by
      have : W.cell? (⟨b, off, spot⟩ : Addr) = some (.int .i64 X0.n) := by simpa [Addr.add] using c0
      simpa using World.cell?_spot this
    subst hspot
    have pick : ∃ Z : Nat → Gv, ∀ i, i < len → W.cells? 0 (Addr.add ⟨b, off, none⟩ (i * 9)) 9 = some [.int .i64 (Z i).n, .int .i64 (Z i).t.k, .int .i64 (Z i).t.n, .int .i64 (Z i).t.r, (Z i).t.os, (Z i).t.az, .int .i64 (Z i).row, (Z i).ops, .int .i64 (Z i).more] ∧ Rdd W 1048576 (Z i).t.os (Z i).t.az ∧ OpsV W (Z i).ops (Z i).nm ∧ (Z i).nm.length ≤ 1048576 := by
      refine ⟨fun i => if h : i < len then Classical.choose (each i h) else X0, fun i hi => ?_⟩
      simp only [dif_pos hi]
      exact Classical.choose_spec (each i hi)
    obtain ⟨Z, hZ⟩ := pick
    refine ⟨some ⟨b, off, none⟩, len, cap, b, off, Z, hcs, fun _ => rfl, ⟨fun i hi => ?_, fun i hi => (hZ i hi).2.1, fun i hi => (hZ i hi).2.2.1, fun i hi => (hZ i hi).2.2.2, hlen⟩⟩
    obtain ⟨h1, _⟩ := hZ i hi
    have hcs := (World.cells?_some h1).2.2
    rw [add_plain] at hcs
    have q0 := hcs 0 (by omega)
    have q1 := hcs 1 (by omega)
    have q2 := hcs 2 (by omega)
    have q3 := hcs 3 (by omega)
    have q4 := hcs 4 (by omega)
    have q5 := hcs 5 (by omega)
    have q6 := hcs 6 (by omega)
    have q7 := hcs 7 (by omega)
    have q8 := hcs 8 (by omega)
    rw [add_plain] at q0 q1 q2 q3 q4 q5 q6 q7 q8
    exact ⟨by simpa using q0, ⟨by simpa using q1, by simpa [Nat.add_assoc] using q2, by simpa [Nat.add_assoc] using q3, by simpa [Nat.add_assoc] using q4, by simpa [Nat.add_assoc] using q5⟩, by simpa using q6, by simpa using q7, by simpa using q8⟩
end Go.Proofs.Ytcogpcalghfghaa
