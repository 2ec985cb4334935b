/-
  The program's writer in memory: a new one; code; Encode.
-/
import Derived.Test.YticmoofjjikefaaDoorPf
set_option linter.unusedVariables false
set_option linter.unusedSimpArgs false
namespace Go.Proofs.YticmoofjjikefaaDoor
open Go.RowKit Go.Lib

/-- A new writer. -/
def WNew (w : World) (p : Nat) : Prop := w.heap[p]? = some (.cells #[.slice none 0 0, .bool false, .bool false] 69 (0, 0))
theorem WNew.cells {w : World} {p : Nat} (h : WNew w p) : w.cell? ⟨p, 0, none⟩ = some (.slice none 0 0) ∧ w.cell? ⟨p, 1, none⟩ = some (.bool false) ∧ w.cell? ⟨p, 2, none⟩ = some (.bool false) ∧ ∀ i, w.frozen? ⟨p, i, none⟩ = false := by
  have hb : w.heap[p]? = _ := h
  refine ⟨?_, ?_, ?_, fun i => ?_⟩ <;> simp [World.cell?, World.frozen?, hb]
theorem room_new (w : World) (p : Nat) (n : Nat) (h : WNew w p) (hn : n ≤ 65535) :
    Calls Tryd.prog 51 #[ptrV p, .int .i64 n] w fun e w' => e = .returned (.bool true) ∧ WNew w' p ∧ w.grownBy w' (some p) := by
  obtain ⟨c0, c1, c2, hf⟩ := h.cells
  have H := hid h
  clear h
  unfold ptrV
  have hw : IntKind.i64.wrap (n : Int) = n := by rw [IntKind.wrap_i64]; omega
  have hz : ¬ ((4000000 : Int) < n) := by omega
  go_enter Tryd.func51, Tryd.ntmps51
  go_wp2
  go_ret
  refine ⟨rfl, ?_, grown_set (grown_refl _ _) _⟩
  have hb : w.heap[p]? = _ := H.out
  unfold WNew
  rw [setCell_eq_setRow w p 2 _ _ _ _ hb]
  exact setRow_heap w p _ _ _ _ hb

theorem bytes_nil (w : World) (ty : TypeId) (s : ByteArray) (h0 : 0 < s.size) (hs : s.size ≤ 140737488355328) :
    ∃ v' w', (Builtin.append_ #[67, 9] ty #[.slice none 0 0, .string s]).run Tryd.prog w = .ok v' w' ∧ ByRow w' 0 v' s.data.toList ∧ w.grownBy w' none ∧ v'.ownBlock = some w.heap.size := by
  obtain ⟨i, hi, hz, h1, h2⟩ := Tryd.infoU8
  have hr := run_append_nil_string (P := Tryd.prog) w 67 9 ty 5 i (.int .u8 0) Tryd.underlying67 Tryd.underlying9 hi hz s h0 (by omega) (by rw [h2]; omega)
  have hge := grownCap_ge w s.size 0 5
  have hm : grownCap w s.size 0 5 ≤ maxLen := grownCap_le_maxLen w _ _ _ (by simp only [maxLen]; omega)
  refine ⟨_, _, hr, ⟨w.heap.size, _, _, (0, 0), by rw [show s.data.toList.length = s.size from rfl], Nat.zero_le _, heap_alloc_new w.drew _, .inr rfl, hge, hm, ?_, ?_⟩, ⟨rfl, rfl, rfl, by simp, fun k hk _ => heap_alloc_old w.drew _ (by simpa using hk)⟩, rfl⟩
  · have hz1 : (Value.int IntKind.u8 0).cells.size = 1 := rfl
    simp only [Array.size_append, Array.size_map, size_zeroCells, hz1]
    show s.size + _ = _
    omega
  · simp only [Array.toList_append, Array.toList_map]
    rw [List.take_append_of_le_length (by simp), List.take_of_length_le (by simp)]
    rfl
section
variable {ops : Array Oper} {rest : List Oper} {o : Oper} {a : Act} {w : World} {Q : Exit → Act → World → Prop}
theorem wpList_bytes_nil (hgd : o.guard = none) (s x : Operand) (hop : o.op = Op.call { callee := Callee.builtin Builtin.append, args := #[s, x], argTypes := #[67, 9] })
    (str : ByteArray) (hs : a.eval s = .slice none 0 0) (hx : a.eval x = .string str) (h0 : 0 < str.size) (hl : str.size ≤ 140737488355328)
    (hK : ∀ v' w', ByRow w' 0 v' str.data.toList → w.grownBy w' none → v'.ownBlock = some w.heap.size → wpList Tryd.prog ops Q rest (a.put o.dst v') w') : wpList Tryd.prog ops Q (o :: rest) a w := by
  refine wpList_plain hgd fun K hK' => ?_
  obtain ⟨v', w', hr, h1, h2, h3⟩ := bytes_nil w o.type str h0 hl
  unfold Oper.wp execOp
  simp only [hop, resolve, invoke, builtin, Sem.run_bind, Sem.run_pure, Result.andThen_ok, List.map_toArray, List.map_cons, List.map_nil, hs, hx, hr]
  exact hK' _ _ (hK _ _ h1 h2 h3)
end

set_option maxHeartbeats 1000000 in
theorem plain_head (Z : Nat → Prop) (w : World) (p : Nat) (h : WNew w p) (hz : ∀ k, Z k → k < w.heap.size ∧ k ≠ p) :
    Calls Tryd.prog 32 #[ptrV p, .string ⟨#[69, 70, 49]⟩] w (WPost Z w p (Cd.wplain Cd.head ([], false))) := by
  have HR := hid (room_new w p 3 h (by omega))
  have HZ := hid hz
  clear h hz
  unfold ptrV at HR ⊢
  go_enter Tryd.func32, Tryd.ntmps32
  go_wp2_with (first
    | (go_at_call 51; refine HR.out.mono ?_; clear HR; rintro en w1 ⟨rfl, h1, hg⟩
       obtain ⟨c0, c1, c2, hf⟩ := h1.cells
       replace h1 := hid h1
       replace hg := hid hg)
    | (at_builtin; refine wpList_bytes_nil rfl _ _ rfl ⟨#[69, 70, 49]⟩ rfl rfl (by decide) (by decide) ?_
       intro v2 w2 hr2 hg2 hat2
       have hlt : p < w1.heap.size := block_lt_of_cell c0
       have hbk : w2.heap[p]? = w1.heap[p]? := hg2.block p hlt (by simp)
       have hp2 : w2.cell? ⟨p, 0, none⟩ = some (.slice none 0 0) := (World.cell?_of_block hbk).trans c0
       have hf2 : w2.frozen? ⟨p, 0, none⟩ = false := (World.frozen?_of_block hbk).trans (hf 0)
       obtain ⟨g2, cap2, rfl, _⟩ := hr2.cell
       replace hr2 := hid hr2
       replace hg2 := hid hg2
       replace hat2 := hid hat2
       replace hbk := hid hbk
       clear c0 c1 c2 hf)
    | go_in)
  refine bodyPost_end (results_none rfl _ _ _) rfl ⟨rfl, ?_⟩
  have hb2 : w2.heap[p]? = some (.cells #[.slice none 0 0, .bool false, .bool false] 69 (0, 0)) := hbk.out.trans h1.out
  have e : g2 = w1.heap.size := by
    have := hat2.out
    simpa [Value.ownBlock] using this
  have hne : (Value.slice (some ⟨g2, 0, none⟩) 3 cap2).ownBlock ≠ some p := by
    simp [Value.ownBlock]
    omega
  have hs1 : w.heap.size ≤ w1.heap.size := hg.out.size
  have hs2 : w1.heap.size ≤ w2.heap.size := hg2.out.size
  refine ⟨⟨.slice (some ⟨g2, 0, none⟩) 3 cap2, ⟨?_, ⟨Cd.head, ByRow.keepB hr2.out (fun k hk => Below.heap_setCell w2 _ _ k (fun e => hne (hk.trans (congrArg some e)))), by decide, fun _ => rfl⟩, hne⟩, fun k hk => ?_⟩, ?_⟩
  · rw [setCell_eq_setRow w2 p 0 _ _ _ _ hb2, setRow_heap w2 p _ _ _ _ hb2]
    rfl
  · obtain ⟨a, b⟩ := HZ.out k hk
    refine ⟨by simp; omega, b, ?_⟩
    simp [Value.ownBlock]
    omega
  · have k1 : Kz Z w w1 := Kz.grown hg.out (fun k hk e => (HZ.out k hk).2 (by cases e; rfl))
    exact kz_set (k1.trans (Kz.grown hg2.out (fun k hk => by simp))) (fun k hk => (HZ.out k hk).2)
end Go.Proofs.YticmoofjjikefaaDoor
