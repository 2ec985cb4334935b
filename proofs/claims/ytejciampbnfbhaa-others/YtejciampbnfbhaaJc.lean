import Derived.Test.YtejciampbnfbhaaMDo
import Derived.Maps.RangeRun
set_option linter.unusedVariables false
set_option linter.unusedSimpArgs false
namespace Go.Proofs.Ytejciampbnfbhaa
open Go.RowKit
def SE (es : Array MapEntry) (clock : Nat) (S : List Int) : Prop := MapKept.Stamped es clock ∧ (∀ e ∈ es.toList, e.val = .bool true ∧ ∃ k : Int, e.key = .int .i64 k ∧ k ∈ S) ∧ ∀ k ∈ S, ∃ e ∈ es.toList, e.key = .int .i64 k
def SM (w : World) (mB : Nat) (S : List Int) : Prop := ∃ es clock, w.heap[mB]? = some (.map es clock) ∧ SE es clock S
theorem SM.lt {w : World} {mB : Nat} {S : List Int} (h : SM w mB S) : mB < w.heap.size := by
 obtain ⟨es, clock, h1, _⟩ := h
 exact (Array.getElem?_eq_some_iff.1 h1).1
theorem SM.keep {w w' : World} {mB : Nat} {S : List Int} (h : SM w mB S) (hs : w'.heap[mB]? = w.heap[mB]?) : SM w' mB S := by
 obtain ⟨es, clock, h1, h2⟩ := h
 exact ⟨es, clock, hs.trans h1, h2⟩
theorem SM.ch {w w' : World} {mB : Nat} {S : List Int} {O : Nat → Prop} (h : SM w mB S) (hc : Ch O w w') (ho : ¬ O mB) : SM w' mB S := h.keep (hc.same mB h.lt ho)
theorem SM.quiet {w w' : World} {mB : Nat} {S : List Int} (h : SM w mB S) (hc : Ch (fun _ => False) w w') : SM w' mB S := h.ch hc (fun h => h)
theorem SM.of {w : World} {mB : Nat} {S S' : List Int} (h : SM w mB S) (hs : ∀ k, k ∈ S ↔ k ∈ S') : SM w mB S' := by
 obtain ⟨es, clock, h1, h2, h3, h4⟩ := h
 exact ⟨es, clock, h1, h2, fun e he => by obtain ⟨a, k, b, c⟩ := h3 e he; exact ⟨a, k, b, (hs k).1 c⟩, fun k hk => h4 k ((hs k).2 hk)⟩
theorem SM.new (w : World) : SM (w.alloc (.map #[] 0)) w.heap.size [] := ⟨#[], 0, World.alloc_heap_new w _, MapKept.stamped_empty 0, by simp, by simp⟩
theorem Try.undIB : Try.prog.underlying 71 = some (.map 3 4) := by kernel_rfl
theorem zero4 (w : World) : (zeroValue 4).run Try.prog w = .ok (.bool false) w := by kernel_rfl
theorem SE.keys {es : Array MapEntry} {clock : Nat} {S : List Int} (h : SE es clock S) : ∀ x ∈ es.toList, MapKept.IsKey (.int .i64) x.key := fun x hx => by
 obtain ⟨_, k, e, _⟩ := h.2.1 x hx
 rw [e]; rfl
theorem isK (k : Int) : MapKept.IsKey (.int .i64) (.int .i64 k) := rfl
theorem run_has {w : World} {mB : Nat} {S : List Int} (h : SM w mB S) (k : Int) : (Instr.lookup 71 (.map (some mB)) (.int .i64 k) false).run Try.prog w = .ok (.bool (decide (k ∈ S))) w := by
 obtain ⟨es, clock, hb, hs⟩ := h
 rcases MapKept.findNow_spec (isK k) es.toList 0 hs.keys with ⟨h1, h2⟩ | ⟨j, e, h1, h2, h3⟩
 ·have : k ∉ S := fun hk => by obtain ⟨e, he, hke⟩ := hs.2.2 k hk; exact h2 e he hke
  simp only [Instr.lookup, Sem.run_bind, run_underlying Try.undIB, Result.andThen_ok, MapKept.run_getObj_map hb, Sem.run_pure, ckInt, MapKept.run_findKey Try.und3 h1, zero4, this, decide_false]
  rfl
 ·obtain ⟨hv, k', e1, e2⟩ := hs.2.1 e (List.mem_of_getElem? h2)
  have : k ∈ S := by rw [h3] at e1; cases e1; exact e2
  simp only [Instr.lookup, Sem.run_bind, run_underlying Try.undIB, Result.andThen_ok, MapKept.run_getObj_map hb, Sem.run_pure, ckInt, MapKept.run_findKey Try.und3 h1, hv, this, decide_true]
  rfl
theorem run_join {w : World} {mB : Nat} {S : List Int} (h : SM w mB S) (k : Int) : ∃ w', (Instr.mapUpdate 71 (.map (some mB)) (.int .i64 k) (.bool true)).run Try.prog w = .ok () w' ∧ SM w' mB (k :: S) ∧ Ch (fun j => j = mB) w w' := by
 obtain ⟨es, clock, hb, hs⟩ := h
 rcases MapKept.findNow_spec (isK k) es.toList 0 hs.keys with ⟨h1, h2⟩ | ⟨j, e, h1, h2, h3⟩
 ·refine ⟨wput w mB (.map (es.push { key := .int .i64 k, val := .bool true, born := clock }) (clock + 1)), ?_, ⟨_, _, (MapKept.heap_set hb).1, MapKept.stamped_push hs.1 h2, fun e he => ?_, fun x hx => ?_⟩, ⟨by simp [wput], fun j _ hne => (MapKept.heap_set hb).2 j hne, rfl, rfl⟩⟩
  ·simp only [Instr.mapUpdate, Sem.run_bind, run_underlying Try.undIB, Result.andThen_ok, MapKept.run_getObj_map hb, ckInt, MapKept.run_findKey Try.und3 h1]
   exact MapKept.run_setObj_map _ hb
  ·simp only [Array.toList_push, List.mem_append, List.mem_singleton] at he
   rcases he with he | rfl
   ·obtain ⟨a, k', b, c⟩ := hs.2.1 e he
    exact ⟨a, k', b, List.mem_cons_of_mem _ c⟩
   ·exact ⟨rfl, k, rfl, List.mem_cons_self⟩
  ·simp only [Array.toList_push, List.mem_append, List.mem_singleton]
   rcases List.mem_cons.1 hx with rfl | hx
   ·exact ⟨_, .inr rfl, rfl⟩
   ·obtain ⟨e, he, hke⟩ := hs.2.2 x hx
    exact ⟨e, .inl he, hke⟩
 ·rw [Nat.zero_add] at h1
  have hj : es[j]? = some e := by simpa using h2
  have hkey : ∀ e', es[j]? = some e' → ({ e' with key := .int .i64 k, val := .bool true } : MapEntry).key = e'.key := fun e' he' => by rw [hj] at he'; cases he'; exact h3.symm
  have hkS : k ∈ S := by
   obtain ⟨_, k', e1, e2⟩ := hs.2.1 e (List.mem_of_getElem? h2); rw [h3] at e1; cases e1; exact e2
  have hmem : ∀ e' ∈ (es.modify j fun e => { e with key := .int .i64 k, val := .bool true }).toList, e'.val = .bool true ∧ ∃ q : Int, e'.key = .int .i64 q ∧ q ∈ S := by
   intro e' he'; obtain ⟨i, hi⟩ := List.mem_iff_getElem?.1 he'; rw [Array.getElem?_toList, Array.getElem?_modify] at hi
   split at hi
   ·obtain ⟨x, _, rfl⟩ := Option.map_eq_some_iff.1 hi
    exact ⟨rfl, k, rfl, hkS⟩
   ·exact hs.2.1 e' (List.mem_of_getElem? (by simpa using hi))
  refine ⟨wput w mB (.map (es.modify j fun e => { e with key := .int .i64 k, val := .bool true }) clock), ?_, ⟨_, _, (MapKept.heap_set hb).1, MapKept.stamped_modify hs.1 _ _ (fun _ _ => rfl) (fun e' _ he' => hkey e' he'), fun e' he' => ?_, fun x hx => ?_⟩, ⟨by simp [wput], fun j _ hne => (MapKept.heap_set hb).2 j hne, rfl, rfl⟩⟩
  ·have hjk : (es[j]?).map (·.key) = some (.int .i64 k) := by rw [hj]; simp [h3]
   simp only [Instr.mapUpdate, Sem.run_bind, run_underlying Try.undIB, Result.andThen_ok, MapKept.run_getObj_map hb, ckInt, MapKept.run_findKey Try.und3 h1, hjk, Option.getD_some, keyStays]; exact MapKept.run_setObj_map _ hb
  ·obtain ⟨a, q, b, c⟩ := hmem e' he'
   exact ⟨a, q, b, List.mem_cons_of_mem _ c⟩
  ·have hx2 : x ∈ S := (List.mem_cons.1 hx).elim (fun e => e ▸ hkS) id
   obtain ⟨e', he', hke⟩ := hs.2.2 x hx2; have hks := MapKept.modify_keys (es := es) j (fun e => { e with key := .int .i64 k, val := .bool true }) hkey; have : e'.key ∈ (es.modify j fun e => { e with key := .int .i64 k, val := .bool true }).toList.map (·.key) := by rw [hks]; exact List.mem_map_of_mem he'
   obtain ⟨e2, h4, h5⟩ := List.mem_map.1 this; exact ⟨e2, h4, h5.trans hke⟩
theorem run_drop {w : World} {mB : Nat} {S : List Int} (h : SM w mB S) (k : Int) (ty : TypeId) : ∃ w', (Builtin.delete_ #[71, 3] ty #[.map (some mB), .int .i64 k]).run Try.prog w = .ok (.tuple #[]) w' ∧ SM w' mB (S.filter (fun x => x != k)) ∧ Ch (fun j => j = mB) w w' := by
 obtain ⟨es, clock, hb, hs⟩ := h
 rcases MapKept.findNow_spec (isK k) es.toList 0 hs.keys with ⟨h1, h2⟩ | ⟨j, e, h1, h2, h3⟩
 ·refine ⟨wput w mB (.map es clock), ?_, ⟨_, _, (MapKept.heap_set hb).1, hs.1, fun e he => ?_, fun x hx => hs.2.2 x (List.mem_filter.1 hx).1⟩, ⟨by simp [wput], fun j _ hne => (MapKept.heap_set hb).2 j hne, rfl, rfl⟩⟩
  ·simp [Builtin.delete_, run_underlying Try.undIB, MapKept.run_getObj_map hb, ckInt, MapKept.run_findKey Try.und3 h1, MapKept.run_setObj_map _ hb, Result.andThen]
   rfl
  ·obtain ⟨a, q, b, c⟩ := hs.2.1 e he
   exact ⟨a, q, b, List.mem_filter.2 ⟨c, by simp only [bne_iff_ne, ne_eq]; rintro rfl; exact h2 e he b⟩⟩
 ·rw [Nat.zero_add] at h1
  have hjl : j < es.size := by
   have := (List.getElem?_eq_some_iff.1 h2).1
   simpa using this
  have hes : (es.eraseIdxIfInBounds j).toList = es.toList.eraseIdx j := by
   unfold Array.eraseIdxIfInBounds; rw [dif_pos hjl]
   simp
  have hnd := hs.1.2.2
  refine ⟨wput w mB (.map (es.eraseIdxIfInBounds j) clock), ?_, ⟨_, _, (MapKept.heap_set hb).1, MapKept.stamped_erase hs.1 _, fun e' he' => ?_, fun x hx => ?_⟩, ⟨by simp [wput], fun j _ hne => (MapKept.heap_set hb).2 j hne, rfl, rfl⟩⟩
  ·simp [Builtin.delete_, run_underlying Try.undIB, MapKept.run_getObj_map hb, ckInt, MapKept.run_findKey Try.und3 h1, MapKept.run_setObj_map _ hb, Result.andThen]
   rfl
  ·rw [hes] at he'
   obtain ⟨a, q, b, c⟩ := hs.2.1 e' (List.mem_of_mem_eraseIdx he'); refine ⟨a, q, b, List.mem_filter.2 ⟨c, ?_⟩⟩; simp only [bne_iff_ne, ne_eq]; rintro rfl; obtain ⟨i, hi, hne⟩ := List.mem_eraseIdx_iff_getElem?.1 he'; have e1 : (es.toList.map (·.key))[i]? = some (.int .i64 q) := by rw [List.getElem?_map, hne]; simp [b]
   have e2 : (es.toList.map (·.key))[j]? = some (.int .i64 q) := by rw [List.getElem?_map, h2]; simp [h3]
   have hi2 := (List.getElem?_eq_some_iff.1 e1).1; exact hi ((List.getElem?_inj hi2 hnd).1 (e1.trans e2.symm))
  ·obtain ⟨hx1, hx2⟩ := List.mem_filter.1 hx
   obtain ⟨e', he', hke⟩ := hs.2.2 x hx1; refine ⟨e', ?_, hke⟩; rw [hes]; obtain ⟨i, hi⟩ := List.mem_iff_getElem?.1 he'; refine List.mem_eraseIdx_iff_getElem?.2 ⟨i, ?_, hi⟩; rintro rfl; rw [h2] at hi; obtain rfl := Option.some.inj hi; rw [h3] at hke; cases hke
   simp at hx2
end Go.Proofs.Ytejciampbnfbhaa
