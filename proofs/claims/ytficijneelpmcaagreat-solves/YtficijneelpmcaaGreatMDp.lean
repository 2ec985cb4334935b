/-
  The document's number, Round, Parts, Fresh.
  How the document puts types into its graph: what is put (plain); its maps; names that are taken over.
  The document's Of.
  The document's Of: lists, pairs.
  The document's Of: functions; any type.
  How the document tells types: plain; types in blocks that are new; how a type joins a slice of types.
  The document's Told: variables and what has no kids.
-/
import Derived.Test.YtficijneelpmcaaGreatMDm
import Derived.WideMake
import Derived.Test.YtficijneelpmcaaGreatMTy
set_option linter.unusedVariables false
set_option linter.unusedSimpArgs false
namespace Go.Proofs.YtficijneelpmcaaGreat
open Go.RowKit

namespace Dg
def number (m : List (Int × Int)) (n : Int) : Int × List (Int × Int) := match m.lookup n with
  | some k => (k, m)
  | none => ((m.length : Int) + 1, mput n ((m.length : Int) + 1) m)
end Dg
theorem run_lenM {w : World} {mB : Nat} {l : List (Int × Int)} (h : MI w mB l) (ty : TypeId) : (Builtin.len_ #[56] ty #[.map (some mB)]).run Tryz.prog w = .ok (.int .i64 (l.length : Int)) w := by
  obtain ⟨es, clock, hb, he⟩ := h
  have e : es.size = l.length := by
    have := congrArg List.length he
    simpa using this
  simp [Builtin.len_, run_underlying Tryz.undII, MapKept.run_getObj_map hb, goInt, Result.andThen, e]
theorem MI.new (w : World) : MI (w.alloc (.map #[] 0)) w.heap.size [] := ⟨#[], 0, World.alloc_heap_new w _, rfl⟩
set_option maxRecDepth 100000 in
theorem number_any (w : World) (mB : Nat) (l : List (Int × Int)) (h : MI w mB l) (hl : l.length < 1000000000) (n : Int) :
    Calls Tryz.prog 34 #[.map (some mB), .int .i64 n] w fun e w' => e = .returned (.int .i64 (Dg.number l n).1) ∧ MI w' mB (Dg.number l n).2 ∧ Ch (fun j => j = mB) w w' := by
  have hlk := run_lookOk h n
  have hlen := run_lenM h 3
  unfold Dg.number
  cases hx : l.lookup n with
  | some k =>
    rw [hx] at hlk
    simp only [Option.getD_some, Option.isSome_some] at hlk
    dsimp only
    replace hx := hid hx
    replace h := hid h
    clear hlen
    go_enter Tryz.func34, Tryz.ntmps34
    go_wp2
    go_ret
    exact ⟨rfl, h.out, Ch.refl _ _⟩
  | none =>
    rw [hx] at hlk
    simp only [Option.getD_none, Option.isSome_none] at hlk
    obtain ⟨w1, hu, s1, c1⟩ := run_upd h n ((l.length : Int) + 1)
    dsimp only
    have hb : (l.length : Int) < 1000000000 := by omega
    replace hx := hid hx
    replace h := hid h
    replace s1 := hid s1
    go_enter Tryz.func34, Tryz.ntmps34
    go_wp2
    go_ret
    exact ⟨rfl, s1.out, c1⟩
theorem new_out {w : World} {b : Nat} {G : Gg} {d : Dg.D} (h : GD w b G d) : G.out b w.heap.size := by
  refine ⟨fun ho => Nat.lt_irrefl _ (h.gm.lt ho), fun i u hu e => ?_⟩
  have hi := (List.getElem?_eq_some_iff.1 hu).1
  have : i < d.ops.length := by rw [← h.ol]; exact hi
  obtain ⟨u', h1, h2, _⟩ := h.ov i d.ops[i] (List.getElem?_eq_getElem this)
  rw [hu] at h1
  obtain rfl := Option.some.inj h1
  obtain ⟨a, c, rfl, h3⟩ := h2
  rcases h3 with ⟨rfl, _⟩ | ⟨g, k, rfl, _, hg, _⟩
  · cases e
  · have : g = w.heap.size := Option.some.inj e
    have := hg.lt
    omega
/-- A row of numbers lies apart of the names. -/
theorem out_row {w : World} {b : Nat} {G : Gg} {d : Dg.D} (h : GD w b G d) {v : Value} {n k : Nat} {xs : List Value} (hv : w.ownsRow 0 3 1 v n xs) (hk : v.ownBlock = some k) (hno : ¬ G.own b k) : G.out b k := by
  refine ⟨hno, fun i u hu e => ?_⟩
  have hi := (List.getElem?_eq_some_iff.1 hu).1
  have : i < d.ops.length := by rw [← h.ol]; exact hi
  obtain ⟨u', h1, h2, _⟩ := h.ov i d.ops[i] (List.getElem?_eq_getElem this)
  rw [hu] at h1
  obtain rfl := Option.some.inj h1
  obtain ⟨a, c, rfl, h3⟩ := h2
  rcases h3 with ⟨rfl, _⟩ | ⟨g, q, rfl, _, ⟨cs, fz, hg⟩, _⟩
  · cases e
  · have : g = k := Option.some.inj e
    subst this
    rcases hv.2 with ⟨rfl, _⟩ | ⟨g', cap, cur, rfl, _, hg', _⟩
    · cases hk
    · have : g' = g := Option.some.inj hk
      subst this
      rw [hg] at hg'
      simp at hg'
theorem GD.Round {w : World} {b : Nat} {G : Gg} {d : Dg.D} (h : GD w b G d) {f k : Nat} {n : Int} {r : Bool} {l' : List (Int × Int)} (hf : Dg.round f k d n [] = some (r, l')) :
    Calls Tryz.prog 15 #[.pointer (some ⟨b, 0, none⟩), .int .i64 n] w fun e w' => e = .returned (.bool r) ∧ Ch (fun _ => False) w w' := by
  have H := Round_any b w.heap.size f k (h.quiet (al_ch w (.map #[] 0))) (new_out h) (MI.new w) hf
  have hm := run_makeMap_plain (P := Tryz.prog) (w := w) 56
  replace h := hid h
  clear hf
  go_enter Tryz.func15, Tryz.ntmps15
  go_wp2_with (go_at_call 32; refine H.mono ?_; clear H; rintro e w2 ⟨rfl, s2, c2⟩)
  go_ret
  exact ⟨rfl, (al_ch w (.map #[] 0)).trans (c2.mono (fun k hk => hk)) (fun k hk => .inr (by omega))⟩
theorem GD.Parts {w : World} {b : Nat} {G : Gg} {d : Dg.D} (h : GD w b G d) {f k : Nat} {n r : Int} {l' : List (Int × Int)} (hf : Dg.parts f k d n [] = some (r, l')) :
    Calls Tryz.prog 16 #[.pointer (some ⟨b, 0, none⟩), .int .i64 n] w fun e w' => e = .returned (.int .i64 r) ∧ Ch (fun _ => False) w w' := by
  have H := Parts_any b w.heap.size f k (h.quiet (al_ch w (.map #[] 0))) (new_out h) (MI.new w) hf
  have hm := run_makeMap_plain (P := Tryz.prog) (w := w) 56
  replace h := hid h
  clear hf
  go_enter Tryz.func16, Tryz.ntmps16
  go_wp2_with (go_at_call 33; refine H.mono ?_; clear H; rintro e w2 ⟨rfl, s2, c2⟩)
  go_ret
  exact ⟨rfl, (al_ch w (.map #[] 0)).trans (c2.mono (fun k hk => hk)) (fun k hk => .inr (by omega))⟩
theorem Fresh_any (w : World) : Calls Tryz.prog 17 #[] w fun e w' => ∃ t r, e = .returned (.agg #[.map (some t), .map (some r)]) ∧ MI w' t [] ∧ MI w' r [] ∧ t ≠ r ∧ w.heap.size ≤ t ∧ w.heap.size ≤ r ∧ Ch (fun _ => False) w w' := by
  have hm := fun w' : World => run_makeMap_plain (P := Tryz.prog) (w := w') 56
  go_enter Tryz.func17, Tryz.ntmps17
  go_wp2
  refine bodyPost_ret (v := .agg #[.map (some (w.heap.size + 1)), .map (some (w.heap.size + 1 + 1))]) (by simp [results, Tryz.results17, go_sem]) rfl ⟨_, _, rfl, ?_, ?_, by omega, by omega, by omega, ?_⟩
  · have h1 := MI.new (w.alloc (.cells #[.map (some (w.heap.size + 1)), .map (some (w.heap.size + 1 + 1))] 58))
    have h2 := h1.keep (w' := ((w.alloc (.cells #[.map (some (w.heap.size + 1)), .map (some (w.heap.size + 1 + 1))] 58)).alloc (.map #[] 0)).alloc (.map #[] 0)) (Below.heap_alloc _ _ _ h1.lt)
    simpa using h2
  · have h1 := MI.new ((w.alloc (.cells #[.map (some (w.heap.size + 1)), .map (some (w.heap.size + 1 + 1))] 58)).alloc (.map #[] 0))
    simpa using h1
  · exact ((al_ch w _).al _).al _
/-- The document's graph as it is at first. -/
def Dg.empty : Dg.D := ⟨[], [], [], [], [], [[]], [0], [], []⟩
theorem own_one {w : World} {g : Nat} {v : Value} {e : TypeId} (h : w.heap[g]? = some (.cells #[v] e (0, 0))) : w.ownsRow 0 e 1 (.slice (some ⟨g, 0, none⟩) 1 1) [v].length [v] :=
  ⟨rfl, .inr ⟨g, 1, #[v], rfl, Nat.zero_le _, h, Nat.le_refl _, by decide, rfl, rfl⟩⟩
def newG (n : Nat) : Gg := ⟨fun i => if i = 5 then .slice (some ⟨n, 0, none⟩) 1 1 else if i = 6 then .slice (some ⟨n + 1, 0, none⟩) 1 1 else .slice none 0 0,
  fun i => if i = 5 then [.slice none 0 0] else if i = 6 then [.int .i64 0] else [], n + 1 + 1, n + 1 + 1 + 1, [], []⟩
theorem newG_own {n i k : Nat} (h : ((newG n).v i).ownBlock = some k) : (i = 5 ∧ k = n) ∨ (i = 6 ∧ k = n + 1) := by
  unfold newG at h
  dsimp only at h
  split at h
  · exact .inl ⟨by assumption, (Option.some.inj h).symm⟩
  · split at h
    · exact .inr ⟨by assumption, (Option.some.inj h).symm⟩
    · cases h
theorem newG_gm {w : World} {n : Nat} (h0 : w.heap[n]? = some (.cells #[.slice none 0 0] 30 (0, 0))) (h1 : w.heap[n + 1]? = some (.cells #[.int .i64 0] 3 (0, 0))) (h2 : w.heap[n + 1 + 1]? = some (.map #[] 0)) (h3 : w.heap[n + 1 + 1 + 1]? = some (.map #[] 0))
    (h4 : w.heap[n + 1 + 1 + 1 + 1]? = some (.cells #[.slice none 0 0, .slice none 0 0, .slice none 0 0, .slice none 0 0, .slice none 0 0, .slice (some ⟨n, 0, none⟩) 1 1, .slice (some ⟨n + 1, 0, none⟩) 1 1, .map (some (n + 1 + 1)), .map (some (n + 1 + 1 + 1))] 72 (0, 0))) : GD w (n + 1 + 1 + 1 + 1) (newG n) Dg.empty where
  gm := by
    refine ⟨h4, fun i hi => ?_, ⟨_, _, h2, rfl⟩, ⟨_, _, h3, rfl⟩, fun i j k _ _ h h' => ?_, fun i hi => ⟨fun e => ?_, fun e => ?_, fun e => ?_⟩, by unfold newG; dsimp only; omega⟩
    · have : i = 0 ∨ i = 1 ∨ i = 2 ∨ i = 3 ∨ i = 4 ∨ i = 5 ∨ i = 6 := by omega
      rcases this with rfl | rfl | rfl | rfl | rfl | rfl | rfl
      · exact World.ownsRow_nil _ _ _ _
      · exact World.ownsRow_nil _ _ _ _
      · exact World.ownsRow_nil _ _ _ _
      · exact World.ownsRow_nil _ _ _ _
      · exact World.ownsRow_nil _ _ _ _
      · exact own_one h0
      · exact own_one h1
    · have a := newG_own h
      have b := newG_own h'
      omega
    · have a := newG_own e; omega
    · have a := newG_own e; unfold newG at a; dsimp only at a; omega
    · have a := newG_own e; unfold newG at a; dsimp only at a; omega
  x0 := rfl
  x1 := rfl
  x2 := rfl
  x3 := rfl
  x4 := rfl
  x6 := rfl
  ol := rfl
  ov i o ho := by
    have hi : i = 0 := by
      have := (List.getElem?_eq_some_iff.1 ho).1
      simp [Dg.empty] at this
      exact this
    subst hi
    have : o = [] := by simpa [Dg.empty] using ho.symm
    subst this
    exact ⟨.slice none 0 0, rfl, SV.nil w, fun k hk => by cases hk⟩
  tv := rfl
  rv := rfl
theorem New_any (w : World) : Calls Tryz.prog 12 #[] w fun e w' => ∃ b G, e = .returned (.pointer (some ⟨b, 0, none⟩)) ∧ GD w' b G Dg.empty ∧ (∀ k, G.own b k → w.heap.size ≤ k) ∧ Ch (fun _ => False) w w' := by
  have hm := fun w' : World => run_makeMap_plain (P := Tryz.prog) (w := w') 56
  go_enter Tryz.func12, Tryz.ntmps12
  go_wp2
  go_ret
  refine ⟨_, newG w.heap.size, rfl, newG_gm ?_ ?_ ?_ ?_ ?_, fun k hk => ?_, ((((al_ch w _).al _).al _).al _).al _⟩
  · exact blk_alloc (blk_alloc (blk_alloc (blk_alloc (World.alloc_heap_new w _))))
  · have h := blk_alloc (x := .map #[] 0) (World.alloc_heap_new (w.alloc (.cells #[.slice none 0 0] 30)) (.cells #[.int .i64 0] 3))
    refine blk_alloc (blk_alloc ?_)
    simpa using h
  · have h := World.alloc_heap_new ((w.alloc (.cells #[.slice none 0 0] 30)).alloc (.cells #[.int .i64 0] 3)) (.map #[] 0)
    refine blk_alloc (blk_alloc ?_)
    simpa using h
  · have h := World.alloc_heap_new (((w.alloc (.cells #[.slice none 0 0] 30)).alloc (.cells #[.int .i64 0] 3)).alloc (.map #[] 0)) (.map #[] 0)
    refine blk_alloc ?_
    simpa using h
  · have h := fun o => World.alloc_heap_new ((((w.alloc (.cells #[.slice none 0 0] 30)).alloc (.cells #[.int .i64 0] 3)).alloc (.map #[] 0)).alloc (.map #[] 0)) o
    simpa using h _
  · rcases hk with rfl | ⟨i, _, h⟩ | rfl | rfl
    · omega
    · have := newG_own h; omega
    · unfold newG; dsimp only; omega
    · unfold newG; dsimp only; omega
end Go.Proofs.YtficijneelpmcaaGreat

namespace Go.Proofs.YtficijneelpmcaaGreat
open Go.RowKit

namespace Dg
/-- The row variable of a type, a new one perhaps. -/
def rowVar (r : Nat) (d : D) : Int × D := if r = 0 then (0, d) else match d.rv.lookup (r : Int) with
  | some n => (n, d)
  | none => ((d.ops.length : Int), { d.putRow [] (-1) with rv := mput (r : Int) (d.ops.length : Int) d.rv })
/-- A type is put into the document's graph. -/
def of : Ty.P → D → Int × D
  | .var n, d => match d.tv.lookup (n : Int) with
    | some k => (k, d)
    | none => ((d.kind.length : Int), { d.put 0 (-1) (-1) 0 with tv := mput (n : Int) (d.kind.length : Int) d.tv })
  | .int, d => ((d.kind.length : Int), d.put 1 (-1) (-1) 0)
  | .bool, d => ((d.kind.length : Int), d.put 2 (-1) (-1) 0)
  | .unit, d => ((d.kind.length : Int), d.put 3 (-1) (-1) 0)
  | .list a, d => (((of a d).2.kind.length : Int), (of a d).2.put 4 (of a d).1 (-1) 0)
  | .pair a b, d => (((of b (of a d).2).2.kind.length : Int), (of b (of a d).2).2.put 5 (of a d).1 (of b (of a d).2).1 0)
  | .fn a b o r, d =>
    let x := of a d
    let y := of b x.2
    let z := rowVar r y.2
    let u := z.2.putRow o z.1
    ((u.kind.length : Int), u.put 6 x.1 y.1 (z.2.ops.length : Int))
/-- There is room for so many more. -/
structure D.room (d : D) (N : Nat) : Prop where
  r0 : d.kind.length + N < big
  r1 : d.a.length + N < big
  r2 : d.b.length + N < big
  r3 : d.row.length + N < big
  r4 : d.link.length + N < big
  r5 : d.ops.length + N < big
  r6 : d.next.length + N < big
theorem D.room.small {d : D} {N : Nat} (h : d.room N) : d.small := ⟨by have := h.r0; omega, by have := h.r1; omega, by have := h.r2; omega, by have := h.r3; omega, by have := h.r4; omega, by have := h.r5; omega, by have := h.r6; omega⟩
theorem D.room.le {d : D} {N M : Nat} (h : d.room N) (hm : M ≤ N) : d.room M := ⟨by have := h.r0; omega, by have := h.r1; omega, by have := h.r2; omega, by have := h.r3; omega, by have := h.r4; omega, by have := h.r5; omega, by have := h.r6; omega⟩
theorem D.room.put {d : D} {N : Nat} (h : d.room (N + 1)) (k a b r : Int) : (d.put k a b r).room N := by
  obtain ⟨h0, h1, h2, h3, h4, h5, h6⟩ := h
  constructor <;> simp only [D.put, List.length_append, List.length_cons, List.length_nil] <;> omega
theorem D.room.putRow {d : D} {N : Nat} (h : d.room (N + 1)) (o : List Un.Nm) (x : Int) : (d.putRow o x).room N := by
  obtain ⟨h0, h1, h2, h3, h4, h5, h6⟩ := h
  constructor <;> simp only [D.putRow, List.length_append, List.length_cons, List.length_nil] <;> omega
theorem D.room.tv {d : D} {N : Nat} (h : d.room N) (m : List (Int × Int)) : D.room { d with tv := m } N := ⟨h.r0, h.r1, h.r2, h.r3, h.r4, h.r5, h.r6⟩
theorem D.room.rv {d : D} {N : Nat} (h : d.room N) (m : List (Int × Int)) : D.room { d with rv := m } N := ⟨h.r0, h.r1, h.r2, h.r3, h.r4, h.r5, h.r6⟩
theorem rowVar_room {d : D} {N : Nat} (h : d.room (N + 1)) (r : Nat) : (rowVar r d).2.room N := by
  unfold rowVar
  split
  · exact h.le (by omega)
  · split
    · exact h.le (by omega)
    · exact (h.putRow _ _).rv _
theorem of_room : ∀ (t : Ty.P) {d : D} {N : Nat}, d.room (N + 3 * t.parts) → (of t d).2.room N := by
  intro t
  induction t with
  | var n =>
    intro d N h
    unfold of
    simp only [Ty.P.parts] at h
    split
    · exact h.le (by omega)
    · exact ((h.le (by omega : N + 1 ≤ _)).put _ _ _ _).tv _
  | int => intro d N h; simp only [Ty.P.parts] at h; exact (h.le (by omega : N + 1 ≤ _)).put _ _ _ _
  | bool => intro d N h; simp only [Ty.P.parts] at h; exact (h.le (by omega : N + 1 ≤ _)).put _ _ _ _
  | unit => intro d N h; simp only [Ty.P.parts] at h; exact (h.le (by omega : N + 1 ≤ _)).put _ _ _ _
  | list a ih => intro d N h; simp only [Ty.P.parts] at h; exact (ih (N := N + 1) (h.le (by omega))).put _ _ _ _
  | pair a b iha ihb => intro d N h; simp only [Ty.P.parts] at h; exact (ihb (N := N + 1) (iha (N := N + 1 + 3 * b.parts) (h.le (by omega)))).put _ _ _ _
  | fn a b o r iha ihb =>
    intro d N h
    simp only [Ty.P.parts] at h
    exact (((rowVar_room (ihb (N := N + 1 + 1 + 1) (iha (N := N + 1 + 1 + 1 + 3 * b.parts) (h.le (by omega)))) r).putRow _ _).put _ _ _ _)
end Dg
theorem GM.updT {w w' : World} {b : Nat} {G : Gg} (h : GM w b G) {m : List (Int × Int)} (hm : MI w' G.t m) (hc : Ch (fun j => j = G.t) w w') : GM w' b { G with tv := m } := by
  have hs : ∀ k, G.own b k → k ≠ G.t → w'.heap[k]? = w.heap[k]? := fun k hk hne => hc.same k (h.lt hk) hne
  refine ⟨(hs b (.inl rfl) h.d3.1).trans h.blk, fun i hi => ownsRow_keep (h.row i hi) (fun k hk => hs k (.inr (.inl ⟨i, hi, hk⟩)) (fun e => (h.d2 i hi).2.1 (e ▸ hk))), hm, h.mr.keep (hs _ (.inr (.inr (.inr rfl))) (fun e => h.d3.2.2 e.symm)), h.d1, h.d2, h.d3⟩
theorem GM.updR {w w' : World} {b : Nat} {G : Gg} (h : GM w b G) {m : List (Int × Int)} (hm : MI w' G.r m) (hc : Ch (fun j => j = G.r) w w') : GM w' b { G with rv := m } := by
  have hs : ∀ k, G.own b k → k ≠ G.r → w'.heap[k]? = w.heap[k]? := fun k hk hne => hc.same k (h.lt hk) hne
  refine ⟨(hs b (.inl rfl) h.d3.2.1).trans h.blk, fun i hi => ownsRow_keep (h.row i hi) (fun k hk => hs k (.inr (.inl ⟨i, hi, hk⟩)) (fun e => (h.d2 i hi).2.2 (e ▸ hk))), h.mt.keep (hs _ (.inr (.inr (.inl rfl))) h.d3.2.2), hm, h.d1, h.d2, h.d3⟩
theorem GD.updT {w : World} {b : Nat} {G : Gg} {d : Dg.D} (h : GD w b G d) (k v : Int) : ∃ w', (Instr.mapUpdate 56 (.map (some G.t)) (.int .i64 k) (.int .i64 v)).run Tryz.prog w = .ok () w' ∧ GS w b G w' { d with tv := Dg.mput k v d.tv } := by
  have hm := h.gm.mt
  rw [h.tv] at hm
  obtain ⟨w', h1, h2, h3⟩ := run_upd hm k v
  have hO : ∀ j, j = G.t → G.own b j := fun j e => .inr (.inr (.inl e))
  refine ⟨w', h1, { G with tv := Dg.mput k v d.tv }, ⟨h.gm.updT h2 h3, h.x0, h.x1, h.x2, h.x3, h.x4, h.x6, h.ol, fun i o ho => ?_, rfl, h.rv⟩, h3.mono hO, fun _ h => .inl h⟩
  obtain ⟨u, u1, u2, u3⟩ := h.ov i o ho
  exact ⟨u, u1, u2.keep h3 (fun k hk e => u3 k hk (hO k e)), u3⟩
theorem GD.updR {w : World} {b : Nat} {G : Gg} {d : Dg.D} (h : GD w b G d) (k v : Int) : ∃ w', (Instr.mapUpdate 56 (.map (some G.r)) (.int .i64 k) (.int .i64 v)).run Tryz.prog w = .ok () w' ∧ GS w b G w' { d with rv := Dg.mput k v d.rv } := by
  have hm := h.gm.mr
  rw [h.rv] at hm
  obtain ⟨w', h1, h2, h3⟩ := run_upd hm k v
  have hO : ∀ j, j = G.r → G.own b j := fun j e => .inr (.inr (.inr e))
  refine ⟨w', h1, { G with rv := Dg.mput k v d.rv }, ⟨h.gm.updR h2 h3, h.x0, h.x1, h.x2, h.x3, h.x4, h.x6, h.ol, fun i o ho => ?_, h.tv, rfl⟩, h3.mono hO, fun _ h => .inl h⟩
  obtain ⟨u, u1, u2, u3⟩ := h.ov i o ho
  exact ⟨u, u1, u2.keep h3 (fun k hk e => u3 k hk (hO k e)), u3⟩
/-- Names are appended, of whatever slice. -/
theorem run_append_ov {w : World} {v : Value} {n : Nat} {xs : List Value} (hown : w.ownsRow 0 9 1 v n xs) {u : Value} {l : List (List UInt8)} (hu : OpsV w u l) (hn : n + l.length < 4000000000) (ty : TypeId) :
    ∃ v' w', (Builtin.append_ #[30, 30] ty #[v, u]).run Tryz.prog w = .ok v' w' ∧ w'.ownsRow 0 9 1 v' (n + l.length) (xs ++ strs l) ∧ w.grownBy w' v.ownBlock ∧ (v'.ownBlock = v.ownBlock ∨ v'.ownBlock = some w.heap.size) := by
  obtain ⟨i, hi, hzz⟩ := Option.map_eq_some_iff.1 Tryz.info9
  simp only [Prod.mk.injEq] at hzz
  obtain ⟨hz, hs, hb⟩ := hzz
  obtain ⟨a, c, rfl, hc, h3⟩ := hu
  cases a with
  | none =>
    have hl : l = [] := Classical.byContradiction fun h0 => by obtain ⟨g, k, e, _⟩ := h3 h0; cases e
    subst hl
    refine ⟨v, w, ?_, by simpa [strs] using hown, World.grownBy.refl _ _, .inl rfl⟩
    rcases hown.2 with ⟨rfl, rfl⟩ | ⟨g, cap, cur, rfl, _, _, hnc, _⟩
    · simp [Builtin.append_, run_underlying Tryz.underlying30, sizeOf, typeInfo, hi, Builtin.lenOf, Builtin.firstCells]
    · simp [Builtin.append_, run_underlying Tryz.underlying30, sizeOf, typeInfo, hi, Builtin.lenOf, Builtin.firstCells, hnc, storeCells]
  | some a =>
    obtain ⟨v', w', hr, h4, h5, h6, h7⟩ := run_append_own_at (P := Tryz.prog) w 0 30 ty 9 i _ 1 16 Tryz.underlying30 hi hz hs hb rfl (by decide) v n xs hown a l.length c (strs l) (by simp [strs]) (fun j u hj => by
      obtain ⟨s, hs, rfl⟩ : ∃ s, l[j]? = some s ∧ str s = u := by simpa [strs] using hj
      have hjl := (List.getElem?_eq_some_iff.1 hs).1
      obtain ⟨g, k, e, h4⟩ := h3 (fun e => by rw [e] at hjl; exact absurd hjl (Nat.not_lt_zero _))
      obtain rfl := Option.some.inj e
      rw [at_plain, h4 j hjl, (List.getElem?_eq_some_iff.1 hs).2]) (fun u hu => by
      obtain ⟨s, _, rfl⟩ : ∃ s ∈ l, str s = u := by simpa [strs] using hu
      rfl) (by unfold maxLen; omega) (by omega) (Nat.zero_le _)
    exact ⟨v', w', hr, h4, h5, h7⟩
end Go.Proofs.YtficijneelpmcaaGreat

namespace Go.Proofs.YtficijneelpmcaaGreat
open Go.RowKit

/-- The blocks that lay in a world stand, and a graph has none of them. -/
structure Past (w0 w : World) (b : Nat) (G : Gg) : Prop where
  size : w0.heap.size ≤ w.heap.size
  same : ∀ k, k < w0.heap.size → w.heap[k]? = w0.heap[k]?
  own : ∀ k, G.own b k → w0.heap.size ≤ k
theorem Past.step {w0 w w' : World} {b : Nat} {G G' : Gg} (h : Past w0 w b G) (hc : Ch (G.own b) w w') (hm : More w (G.own b) (G'.own b)) : Past w0 w' b G' :=
  ⟨Nat.le_trans h.size hc.size, fun k hk => (hc.same k (Nat.lt_of_lt_of_le hk h.size) (fun ho => Nat.lt_irrefl _ (Nat.lt_of_lt_of_le hk (h.own k ho)))).trans (h.same k hk), fun k hk => by
    rcases hm k hk with h1 | h1
    · exact h.own k h1
    · exact Nat.le_trans h.size h1⟩
theorem Past.al {w0 w : World} {b : Nat} {G : Gg} (h : Past w0 w b G) (o : Obj) : Past w0 (w.alloc o) b G := h.step ((al_ch w o).mono (fun _ h => h.elim)) (fun _ h => .inl h)
theorem Past.isT {w0 w : World} {b : Nat} {G : Gg} (h : Past w0 w b G) {t : Ty.P} {os az : Value} (hi : IsT w0 t os az) : IsT w t os az := IsT.carry h.same hi
theorem Past.el {w0 w : World} {b : Nat} {G : Gg} (h : Past w0 w b G) {g o : Nat} {k n r : Int} {os az : Value} (hi : El w0 g o k n r os az) : El w g o k n r os az := hi.of_heap (h.same g hi.lt)
theorem Ch.keeps {O : Nat → Prop} {w w' : World} (h : Ch O w w') {k : Nat} {o : Obj} (hk : w.heap[k]? = some o) (hO : ¬ O k) : w'.heap[k]? = some o := (h.same k (Array.getElem?_eq_some_iff.1 hk).1 hO).trans hk
theorem GS.al {w w2 : World} {b : Nat} {G : Gg} {d : Dg.D} {o : Obj} (h : GS (w.alloc o) b G w2 d) : GS w b G w2 d := GS.after ((al_ch w o).mono (fun _ h => h.elim)) (fun _ h => .inl h) h
abbrev tyV (k n r : Int) (os az : Value) : Value := .agg #[.int .i64 k, .int .i64 n, .int .i64 r, os, az]
abbrev tyB (k n r : Int) (os az : Value) : Obj := .cells #[.int .i64 k, .int .i64 n, .int .i64 r, os, az] 32
def OfOK (w0 : World) (b : Nat) (t : Ty.P) : Prop := ∀ {w : World} {G : Gg} {d : Dg.D} {os az : Value}, GD w b G d → d.room (3 * t.parts) → Past w0 w b G → IsT w0 t os az →
  Calls Tryz.prog 13 #[.pointer (some ⟨b, 0, none⟩), tyV t.kind t.num t.row os az] w fun e w' => e = .returned (.int .i64 (Dg.of t d).1) ∧ GS w b G w' (Dg.of t d).2

set_option maxRecDepth 100000 in
set_option maxHeartbeats 4000000 in
theorem Of_leaf (k : Int) (hk0 : k ≠ 0) (hk6 : k ≠ 6) {w : World} {b : Nat} {G : Gg} {d : Dg.D} {os az : Value} (h : GD w b G d) (hs : d.small) (ho : Nul os) (ha : Nul az) :
    Calls Tryz.prog 13 #[.pointer (some ⟨b, 0, none⟩), tyV k 0 0 os az] w fun e w' => e = .returned (.int .i64 (d.kind.length : Nat)) ∧ GS w b G w' (d.put k (-1) (-1) 0) := by
  obtain ⟨oa, oc, rfl⟩ := ho
  obtain ⟨aa, ac, rfl⟩ := ha
  have HP := (h.quiet (al_ch w (tyB k 0 0 (.slice oa 0 oc) (.slice aa 0 ac)))).Put hs k (-1) (-1) 0
  replace h := hid h
  go_enter Tryz.func13, Tryz.ntmps13
  go_wp2_with (go_at_call 29; refine HP.mono ?_; clear HP; rintro e w1 ⟨rfl, h1⟩)
  go_ret
  exact ⟨rfl, h1.al⟩

set_option maxRecDepth 100000 in
set_option maxHeartbeats 4000000 in
theorem Of_var {n : Nat} {w : World} {b : Nat} {G : Gg} {d : Dg.D} {os az : Value} (h : GD w b G d) (hs : d.small) (ho : Nul os) (ha : Nul az) :
    Calls Tryz.prog 13 #[.pointer (some ⟨b, 0, none⟩), tyV 0 n 0 os az] w fun e w' => e = .returned (.int .i64 (Dg.of (.var n) d).1) ∧ GS w b G w' (Dg.of (.var n) d).2 := by
  obtain ⟨oa, oc, rfl⟩ := ho
  obtain ⟨aa, ac, rfl⟩ := ha
  have h1 := h.quiet (al_ch w (tyB 0 n 0 (.slice oa 0 oc) (.slice aa 0 ac)))
  have mt := h1.gm.mt
  rw [h1.tv] at mt
  have hlk := fun q => run_lookOk (mt.keep (w' := (w.alloc (tyB 0 n 0 (.slice oa 0 oc) (.slice aa 0 ac))).drewN q) rfl) (n : Int)
  have hb := h1.gm.cells.2.2.2.2.2.2.2.1
  have hf := h1.gm.frozen 7
  unfold Dg.of
  cases hx : d.tv.lookup (n : Int) with
  | some k =>
    simp only [hx, Option.getD_some, Option.isSome_some] at hlk
    dsimp only
    have h1' := hid h1
    clear h1 mt hx
    replace h := hid h
    go_enter Tryz.func13, Tryz.ntmps13
    go_upto_region 2 with (fail)
    go_quiet (fail)
    go_wp2
    go_ret
    exact ⟨rfl, (GS.refl h.out).quiet (((Ch.refl _ _).al _).dn _)⟩
  | none =>
    simp only [hx, Option.getD_none, Option.isSome_none] at hlk
    dsimp only
    have HP : ∀ q, Calls Tryz.prog 26 #[.pointer (some ⟨b, 0, none⟩)] ((w.alloc (tyB 0 n 0 (.slice oa 0 oc) (.slice aa 0 ac))).drewN q) fun e w' => e = .returned (.int .i64 (d.kind.length : Nat)) ∧ GS (w.alloc (tyB 0 n 0 (.slice oa 0 oc) (.slice aa 0 ac))) b G w' (d.put 0 (-1) (-1) 0) := fun q => ((h1.quiet ((Ch.refl _ _).dn q)).Var hs).mono (by
      rintro e w2 ⟨rfl, g2⟩
      exact ⟨rfl, GS.after ((Ch.refl _ _).dn q) (fun _ h => .inl h) g2⟩)
    replace HP := hid HP
    have hbx : (w.alloc (tyB 0 n 0 (.slice oa 0 oc) (.slice aa 0 ac))).heap[w.heap.size]? = some (tyB 0 n 0 (.slice oa 0 oc) (.slice aa 0 ac)) := World.alloc_heap_new w _
    have hnb : ¬ G.own b w.heap.size := fun e => Nat.lt_irrefl _ (h.gm.lt e)
    replace hbx := hid hbx
    replace hnb := hid hnb
    have h1' := hid h1
    clear h1 mt hx
    replace h := hid h
    go_enter Tryz.func13, Tryz.ntmps13
    go_upto_region 2 with (fail)
    go_quiet (fail)
    go_upto_region 5 with (go_at_call 26; refine (HP.out _).mono ?_; clear HP; rintro e w2 ⟨rfl, G2, g2, c2, m2⟩; replace g2 := hid g2; replace c2 := hid c2; replace m2 := hid m2)
    have cb := c2.out.keeps hbx.out hnb.out
    have hb2 := g2.out.gm.cells.2.2.2.2.2.2.2.1
    have hcn : w2.cell? ⟨w.heap.size, 1, none⟩ = some (.int .i64 n) := by unfold World.cell?; rw [cb]; rfl
    have HU : ∀ q, ∃ w3, (Instr.mapUpdate 56 (.map (some G2.t)) (.int .i64 n) (.int .i64 (d.kind.length : Nat))).run Tryz.prog (w2.drewN q) = .ok () w3 ∧ GS w2 b G2 w3 { d.put 0 (-1) (-1) 0 with tv := Dg.mput n (d.kind.length : Nat) d.tv } := fun q => by
      obtain ⟨w3, h3, g3⟩ := (g2.out.quiet ((Ch.refl _ _).dn q)).updT (n : Int) (d.kind.length : Nat)
      exact ⟨w3, h3, GS.after ((Ch.refl _ _).dn q) (fun _ h => .inl h) g3⟩
    replace HU := hid HU
    clear cb hlk hb hf
    refine wp_region_split 7 1 (by kernel_rfl) rfl (by kernel_rfl) (by kernel_rfl) (by kernel_rfl) ?_
    simp only [List.take_succ_cons, List.take_zero]
    repeat (gi_big_quiet_step (fail))
    refine wpQuietIn_nil ?_
    intro _ hw'
    obtain ⟨nq1, hw''⟩ := hw'
    subst hw''
    obtain ⟨w3, h3, g3⟩ := HU.out nq1
    clear HU
    replace g3 := hid g3
    refine wpAnyIn_ready (rs := [7]) (by kernel_rfl) (by simp) (AllReadyIn.cons rfl (fun K hK => ?_) AllReadyIn.nil)
    go_simp
    refine hK _ _ ?_
    clear hK K
    refine wpAnyIn_done (by kernel_rfl) ?_ _
    go_wp2
    go_ret
    exact ⟨rfl, (GS.after c2.out m2.out g3.out).al⟩
end Go.Proofs.YtficijneelpmcaaGreat

namespace Go.Proofs.YtficijneelpmcaaGreat
open Go.RowKit

/-- The cells of a boxed type. -/
def Bx (w : World) (x : Nat) (k n r : Int) (os az : Value) : Prop := w.heap[x]? = some (tyB k n r os az)
theorem Bx.cells {w : World} {x : Nat} {k n r : Int} {os az : Value} (h : Bx w x k n r os az) : w.cell? ⟨x, 0, none⟩ = some (.int .i64 k) ∧ w.cell? ⟨x, 1, none⟩ = some (.int .i64 n) ∧ w.cell? ⟨x, 2, none⟩ = some (.int .i64 r) ∧ w.cell? ⟨x, 3, none⟩ = some os ∧ w.cell? ⟨x, 4, none⟩ = some az := by
  unfold Bx at h
  refine ⟨?_, ?_, ?_, ?_, ?_⟩ <;> (unfold World.cell?; rw [h]; rfl)
theorem Bx.new (w : World) (k n r : Int) (os az : Value) : Bx (w.alloc (tyB k n r os az)) w.heap.size k n r os az := World.alloc_heap_new w _
theorem Bx.keep {O : Nat → Prop} {w w' : World} {x : Nat} {k n r : Int} {os az : Value} (h : Bx w x k n r os az) (hc : Ch O w w') (hO : ¬ O x) : Bx w' x k n r os az := hc.keeps h hO
theorem GD.not_own {w : World} {b : Nat} {G : Gg} {d : Dg.D} (h : GD w b G d) : ¬ G.own b w.heap.size := fun e => Nat.lt_irrefl _ (h.gm.lt e)
theorem More.not {w : World} {O O' : Nat → Prop} (h : More w O O') {x : Nat} (hx : ¬ O x) (hl : x < w.heap.size) : ¬ O' x := fun e => by
  rcases h x e with e | e
  · exact hx e
  · omega

set_option maxRecDepth 100000 in
set_option maxHeartbeats 4000000 in
theorem Of_list {w0 : World} {b : Nat} {a : Ty.P} (ih : OfOK w0 b a) : OfOK w0 b (.list a) := by
  intro w G d os az h hr hp hi
  obtain ⟨⟨oa, oc, rfl⟩, g, o, c, os', az', rfl, hc1, he, hi'⟩ := hi
  simp only [Ty.P.parts] at hr
  have h1 := h.quiet (al_ch w (tyB 4 0 0 (.slice oa 0 oc) (.slice (some ⟨g, o, none⟩) 1 c)))
  have p1 := hp.al (tyB 4 0 0 (.slice oa 0 oc) (.slice (some ⟨g, o, none⟩) 1 c))
  have H1 := ih h1 (hr.le (by omega)) p1 hi'
  have hr1 := Dg.of_room a (N := 1) (hr.le (by omega))
  obtain ⟨e0, e1, e2, e3, e4⟩ := p1.el he
  have bx := hid (Bx.new w 4 0 0 (.slice oa 0 oc) (.slice (some ⟨g, o, none⟩) 1 c))
  have hno := hid h.not_own
  show Calls Tryz.prog 13 #[.pointer (some ⟨b, 0, none⟩), tyV 4 0 0 (.slice oa 0 oc) (.slice (some ⟨g, o, none⟩) 1 c)] w fun e w' => e = .returned (.int .i64 ((Dg.of a d).2.kind.length : Nat)) ∧ GS w b G w' ((Dg.of a d).2.put 4 (Dg.of a d).1 (-1) 0)
  clear h1 p1 he hi' hp ih
  replace h := hid h
  replace hr := hid hr
  replace hr1 := hid hr1
  go_enter Tryz.func13, Tryz.ntmps13
  go_upto_region 12 with (go_at_call 13; refine H1.mono ?_; clear H1; rintro e w1 ⟨rfl, G1, g1, c1, m1⟩; replace g1 := hid g1; replace c1 := hid c1; replace m1 := hid m1)
  clear e0 e1 e2 e3 e4
  have bx1 := hid (bx.out.keep c1.out hno.out)
  obtain ⟨b0, b1, b2, b3, b4⟩ := bx1.out.cells
  have HP := g1.out.Put hr1.out.small 4 (Dg.of a d).1 (-1) 0
  go_wp2_with (go_at_call 29; refine HP.mono ?_; clear HP; rintro e w2 ⟨rfl, h2⟩)
  go_ret
  exact ⟨rfl, (GS.after c1.out m1.out h2).al⟩

set_option maxRecDepth 100000 in
set_option maxHeartbeats 4000000 in
theorem Of_pair {w0 : World} {b : Nat} {a a' : Ty.P} (ih : OfOK w0 b a) (ih' : OfOK w0 b a') : OfOK w0 b (.pair a a') := by
  intro w G d os az h hr hp hi
  obtain ⟨⟨oa, oc, rfl⟩, g, o, c, os', az', os2, az2, rfl, hc1, he, hi', he2, hi2⟩ := hi
  simp only [Ty.P.parts] at hr
  have h1 := h.quiet (al_ch w (tyB 5 0 0 (.slice oa 0 oc) (.slice (some ⟨g, o, none⟩) 2 c)))
  have p1 := hp.al (tyB 5 0 0 (.slice oa 0 oc) (.slice (some ⟨g, o, none⟩) 2 c))
  have H1 := ih h1 (hr.le (by omega)) p1 hi'
  have hr1 := Dg.of_room a (N := 1 + 3 * a'.parts) (hr.le (by omega))
  have hr2 := Dg.of_room a' (N := 1) hr1
  obtain ⟨e0, e1, e2, e3, e4⟩ := p1.el he
  have bx := hid (Bx.new w 5 0 0 (.slice oa 0 oc) (.slice (some ⟨g, o, none⟩) 2 c))
  have hno := hid h.not_own
  show Calls Tryz.prog 13 #[.pointer (some ⟨b, 0, none⟩), tyV 5 0 0 (.slice oa 0 oc) (.slice (some ⟨g, o, none⟩) 2 c)] w fun e w' => e = .returned (.int .i64 ((Dg.of a' (Dg.of a d).2).2.kind.length : Nat)) ∧ GS w b G w' ((Dg.of a' (Dg.of a d).2).2.put 5 (Dg.of a d).1 (Dg.of a' (Dg.of a d).2).1 0)
  clear h1 he hi' hp ih
  replace h := hid h
  replace hr := hid hr
  replace hr1 := hid hr1
  replace hr2 := hid hr2
  replace p1 := hid p1
  replace ih' := @hid _ @ih'
  replace hi2 := hid hi2
  replace he2 := hid he2
  generalize hd1 : Dg.of a d = X at *
  go_enter Tryz.func13, Tryz.ntmps13
  go_upto_region 12 with (go_at_call 13; refine H1.mono ?_; clear H1; rintro e w1 ⟨rfl, G1, g1, c1, m1⟩; replace g1 := hid g1; replace c1 := hid c1; replace m1 := hid m1)
  clear e0 e1 e2 e3 e4
  have bx1 := hid (bx.out.keep c1.out hno.out)
  have hno1 := hid (m1.out.not hno.out (by simp))
  obtain ⟨b0, b1, b2, b3, b4⟩ := bx1.out.cells
  have p2 := p1.out.step c1.out m1.out
  obtain ⟨e0, e1, e2, e3, e4⟩ := p2.el he2.out
  have H2 := ih'.out g1.out (hr1.out.le (by omega)) p2 hi2.out
  clear p2
  go_upto_region 14 with (go_at_call 13; refine H2.mono ?_; clear H2; rintro e w2 ⟨rfl, G2, g2, c2, m2⟩; replace g2 := hid g2; replace c2 := hid c2; replace m2 := hid m2)
  clear e0 e1 e2 e3 e4 b0 b1 b2 b3 b4
  have bx2 := hid (bx1.out.keep c2.out hno1.out)
  obtain ⟨b0, b1, b2, b3, b4⟩ := bx2.out.cells
  have HP := g2.out.Put hr2.out.small 5 X.1 (Dg.of a' X.2).1 0
  go_wp2_with (go_at_call 29; refine HP.mono ?_; clear HP; rintro e w3 ⟨rfl, h3⟩)
  go_ret
  exact ⟨rfl, (GS.after c1.out m1.out (GS.after c2.out m2.out h3)).al⟩
end Go.Proofs.YtficijneelpmcaaGreat

namespace Go.Proofs.YtficijneelpmcaaGreat
open Go.RowKit

section
variable {ops : Array Oper} {rest : List Oper} {o : Oper} {a : Act} {w : World} {Q : Exit → Act → World → Prop}
theorem list_append_ov (hgd : o.guard = none) (s x : Operand) (hop : o.op = Op.call { callee := Callee.builtin Builtin.append, args := #[s, x], argTypes := #[30, 30] }) {v u : Value} {n : Nat} {xs : List Value} {l : List (List UInt8)} (hs : a.eval s = v) (hx : a.eval x = u) (hown : w.ownsRow 0 9 1 v n xs) (hu : OpsV w u l) (hn : n + l.length < 4000000000)
    (hK : ∀ v' w', w'.ownsRow 0 9 1 v' (n + l.length) (xs ++ strs l) → w.grownBy w' v.ownBlock → (v'.ownBlock = v.ownBlock ∨ v'.ownBlock = some w.heap.size) → wpList Tryz.prog ops Q rest (a.put o.dst v') w') :
    wpList Tryz.prog ops Q (o :: rest) a w :=
  wpList_plain hgd fun _ hK' => by
    obtain ⟨v', w', hr, h1, h2, h3⟩ := run_append_ov hown hu hn o.type
    unfold Oper.wp execOp
    simp only [hop, resolve, invoke, builtin, Sem.run_bind, Sem.run_pure, Result.andThen_ok, List.map_toArray, List.map_cons, List.map_nil, hs, hx, hr]
    exact hK' _ _ (hK v' w' h1 h2 h3)
end
theorem Fresh.empty (w : World) : Fresh w (w.alloc (.cells #[] 9)) (.slice (some ⟨w.heap.size, 0, none⟩) 0 0) [] :=
  ⟨⟨rfl, .inr ⟨w.heap.size, 0, #[], rfl, Nat.zero_le _, World.alloc_heap_new w _, Nat.le_refl _, Nat.zero_le _, rfl, rfl⟩⟩, al_ch w _, fun k hk => by
    have : w.heap.size = k := Option.some.inj hk
    omega⟩
theorem Past.ops {w0 w : World} {b : Nat} {G : Gg} (h : Past w0 w b G) {v : Value} {o : List (List UInt8)} (ho : OpsV w0 v o) (x : Obj) : OpsV (w.alloc x) v o := OpsV.carry ho (h.al x).same

set_option maxRecDepth 100000 in
set_option maxHeartbeats 8000000 in
theorem Of_fn {w0 : World} {b : Nat} {a a' : Ty.P} {ol : List (List UInt8)} {r : Nat} (ih : OfOK w0 b a) (ih' : OfOK w0 b a') : OfOK w0 b (.fn a a' ol r) := by
  intro w G d os az h hr hp hi
  obtain ⟨hov, g, o, c, os', az', os2, az2, rfl, hc1, he, hi', he2, hi2⟩ := hi
  obtain ⟨oa, oc, rfl, _⟩ := id hov
  simp only [Ty.P.parts] at hr
  have h1 := h.quiet (al_ch w (tyB 6 0 r (.slice oa ol.length oc) (.slice (some ⟨g, o, none⟩) 2 c)))
  have p1 := hp.al (tyB 6 0 r (.slice oa ol.length oc) (.slice (some ⟨g, o, none⟩) 2 c))
  have H1 := ih h1 (hr.le (by omega)) p1 hi'
  have hr1 := Dg.of_room a (N := 1 + 1 + 1 + 3 * a'.parts) (hr.le (by omega))
  have hr2 := Dg.of_room a' (N := 1 + 1 + 1) hr1
  obtain ⟨e0, e1, e2, e3, e4⟩ := p1.el he
  have bx := hid (Bx.new w 6 0 r (.slice oa ol.length oc) (.slice (some ⟨g, o, none⟩) 2 c))
  have hno := hid h.not_own
  have hol : ol.length < 4000000000 := by have := hr.r0; unfold Dg.big at this; omega
  replace hov := hid hov
  unfold Dg.of
  show Calls Tryz.prog 13 #[.pointer (some ⟨b, 0, none⟩), tyV 6 0 r (.slice oa ol.length oc) (.slice (some ⟨g, o, none⟩) 2 c)] w _
  clear h1 he hi' hp ih
  replace h := hid h
  replace hr := hid hr
  replace hr1 := hid hr1
  replace p1 := hid p1
  replace ih' := @hid _ @ih'
  replace hi2 := hid hi2
  replace he2 := hid he2
  replace hol := hid hol
  dsimp only
  generalize hd1 : Dg.of a d = X at *
  clear hd1
  generalize hd2 : Dg.of a' X.2 = Y at *
  have hd2' := hid hd2
  clear hd2
  replace hr2 := hid hr2
  go_enter Tryz.func13, Tryz.ntmps13
  go_upto_region 12 with (go_at_call 13; refine H1.mono ?_; clear H1; rintro e w1 ⟨rfl, G1, g1, c1, m1⟩; replace g1 := hid g1; replace c1 := hid c1; replace m1 := hid m1)
  clear e0 e1 e2 e3 e4
  have bx1 := hid (bx.out.keep c1.out hno.out)
  have hno1 := hid (m1.out.not hno.out (by simp))
  obtain ⟨b0, b1, b2, b3, b4⟩ := bx1.out.cells
  have p2 := p1.out.step c1.out m1.out
  obtain ⟨e0, e1, e2, e3, e4⟩ := p2.el he2.out
  have H2 := ih'.out g1.out (hr1.out.le (by omega)) p2 hi2.out
  rw [hd2'.out] at H2
  replace p2 := hid p2
  go_upto_region 14 with (go_at_call 13; refine H2.mono ?_; clear H2; rintro e w2 ⟨rfl, G2, g2, c2, m2⟩; replace g2 := hid g2; replace c2 := hid c2; replace m2 := hid m2)
  clear e0 e1 e2 e3 e4 b0 b1 b2 b3 b4
  have bx2 := hid (bx1.out.keep c2.out hno1.out)
  have hl1 : w.heap.size < w1.heap.size := (Array.getElem?_eq_some_iff.1 bx1.out).1
  have hno2 := hid (m2.out.not hno1.out hl1)
  have hl2 : w.heap.size < w2.heap.size := (Array.getElem?_eq_some_iff.1 bx2.out).1
  obtain ⟨b0, b1, b2, b3, b4⟩ := bx2.out.cells
  have p3 := hid (p2.out.step c2.out m2.out)
  have cc := hid (c1.out.two c2.out m1.out)
  have mm := hid (m1.out.two m2.out c1.out.size)
  clear p2 p1 c1 c2 m1 m2 bx bx1 hno hno1
  replace hl1 := hid hl1
  replace hl2 := hid hl2
  by_cases h0 : r = 0
  · subst h0
    have ez : Hid (Dg.rowVar 0 Y.2 = (0, Y.2)) := hid rfl
    have hrz : Hid (Y.2.room (1 + 1)) := hid (hr2.out.le (by omega))
    go_upto_region 22 with (fail)
    clear b0 b1 b2 b3 b4
    obtain ⟨b0, b1, b2, b3, b4⟩ := (Bx.keep bx2.out (al_ch w2 (.cells #[] 9)) (fun h => h)).cells
    have hov2 := p3.out.ops hov.out (.cells #[] 9)
    have hF := Fresh.empty w2
    go_upto_region 23 with (first
      | (at_builtin; go_must (refine list_append_ov rfl (.tmp 87) (.tmp 89) rfl (l := ol) (xs := strs []) rfl rfl hF.1 hov2 (by simpa using hol.out) ?_); intro v' w5 hrow1 hgrow hblk; have hF5 := hF.more hrow1 hgrow hblk; clear hrow1 hgrow hblk hF hov2)
      | (go_at_call 28; refine (((g2.out.quiet hF5.2.1).PutRow hr2.out.small hF5.sv (hF5.apart g2.out.gm) 0)).mono ?_; rintro e w6 ⟨rfl, G6, g6, c6, m6⟩; replace g6 := hid g6; replace c6 := hid c6; replace m6 := hid m6; replace hF5 := hid hF5))
    obtain ⟨b0, b1, b2, b3, b4⟩ := ((bx2.out.keep hF5.out.2.1 (fun h => h)).keep c6.out hno2.out).cells
    have HP := g6.out.Put (hrz.out.putRow ol 0).small 6 X.1 Y.1 (Y.2.ops.length : Nat)
    go_wp2_with (go_at_call 29; refine HP.mono ?_; clear HP; rintro e w7 ⟨rfl, h7⟩)
    go_ret
    rw [ez.out]
    exact ⟨rfl, (GS.after cc.out mm.out (GS.after (hF5.out.2.1.mono (fun _ h => h.elim)) (fun _ h => .inl h) (GS.after c6.out m6.out h7))).al⟩
  · have r0 : (0 : Int) < (r : Int) := by omega
    have mr := g2.out.gm.mr
    rw [g2.out.rv] at mr
    have hlk := fun q => run_lookOk (mr.keep (w' := w2.drewN q) rfl) (r : Int)
    have hb := g2.out.gm.cells.2.2.2.2.2.2.2.2
    cases hx : Y.2.rv.lookup (r : Int) with
    | some k =>
      have ez : Hid (Dg.rowVar r Y.2 = (k, Y.2)) := hid (by unfold Dg.rowVar; rw [if_neg h0, hx])
      have hrz : Hid (Y.2.room (1 + 1)) := hid (hr2.out.le (by omega))
      simp only [hx, Option.getD_some, Option.isSome_some] at hlk
      clear mr hx
      replace h0 := hid h0
      go_upto_region 17 with (fail)
      go_quiet (fail)
      clear b0 b1 b2 b3 b4 hb hlk
      obtain ⟨W, hW⟩ : ∃ W, W = w2.drewN nq := ⟨_, rfl⟩
      rw [← hW]
      have cW : Ch (fun _ => False) w2 W := by rw [hW]; exact (Ch.refl _ _).dn _
      clear hW
      have g3 := hid (g2.out.quiet cW)
      have bx3 := hid (bx2.out.keep cW (fun h => h))
      have p4 := hid (p3.out.step (cW.mono (fun _ h => h.elim)) (fun _ h => .inl h))
      have cc3 := hid (cc.out.trans (cW.mono (fun _ h => h.elim)) (fun _ h => .inl h))
      obtain ⟨b0, b1, b2, b3, b4⟩ := bx3.out.cells
      replace cW := hid cW
      go_upto_region 22 with (fail)
      clear b0 b1 b2 b3 b4
      obtain ⟨b0, b1, b2, b3, b4⟩ := (Bx.keep bx3.out (al_ch W (.cells #[] 9)) (fun h => h)).cells
      have hov2 := p4.out.ops hov.out (.cells #[] 9)
      have hF := Fresh.empty W
      go_upto_region 23 with (first
        | (at_builtin; go_must (refine list_append_ov rfl (.tmp 87) (.tmp 89) rfl (l := ol) (xs := strs []) rfl rfl hF.1 hov2 (by simpa using hol.out) ?_); intro v' w5 hrow1 hgrow hblk; have hF5 := hF.more hrow1 hgrow hblk; clear hrow1 hgrow hblk hF hov2)
        | (go_at_call 28; refine (((g3.out.quiet hF5.2.1).PutRow hr2.out.small hF5.sv (hF5.apart g3.out.gm) k)).mono ?_; rintro e w6 ⟨rfl, G6, g6, c6, m6⟩; replace g6 := hid g6; replace c6 := hid c6; replace m6 := hid m6; replace hF5 := hid hF5))
      obtain ⟨b0, b1, b2, b3, b4⟩ := ((bx3.out.keep hF5.out.2.1 (fun h => h)).keep c6.out hno2.out).cells
      have HP := g6.out.Put (hrz.out.putRow ol k).small 6 X.1 Y.1 (Y.2.ops.length : Nat)
      go_wp2_with (go_at_call 29; refine HP.mono ?_; clear HP; rintro e w7 ⟨rfl, h7⟩)
      go_ret
      rw [ez.out]
      exact ⟨rfl, (GS.after cc3.out mm.out (GS.after (hF5.out.2.1.mono (fun _ h => h.elim)) (fun _ h => .inl h) (GS.after c6.out m6.out h7))).al⟩
    | none =>
      have ez : Hid (Dg.rowVar r Y.2 = ((Y.2.ops.length : Int), { Y.2.putRow [] (-1) with rv := Dg.mput (r : Int) (Y.2.ops.length : Int) Y.2.rv })) := hid (by unfold Dg.rowVar; rw [if_neg h0, hx])
      have hrz : Hid (Dg.D.room { Y.2.putRow [] (-1) with rv := Dg.mput (r : Int) (Y.2.ops.length : Int) Y.2.rv } (1 + 1)) := hid ((hr2.out.putRow [] (-1)).rv _)
      simp only [hx, Option.getD_none, Option.isSome_none] at hlk
      have HO : Hid (∀ q, Calls Tryz.prog 27 #[.pointer (some ⟨b, 0, none⟩)] (w2.drewN q) fun e w' => e = .returned (.int .i64 (Y.2.ops.length : Nat)) ∧ GS w2 b G2 w' (Y.2.putRow [] (-1))) := hid fun q => ((g2.out.quiet ((Ch.refl _ _).dn q)).Open hr2.out.small).mono (by
        rintro e w' ⟨rfl, g⟩
        exact ⟨rfl, GS.after ((Ch.refl _ _).dn q) (fun _ h => .inl h) g⟩)
      clear mr hx
      replace h0 := hid h0
      go_upto_region 17 with (fail)
      go_quiet (fail)
      go_upto_region 20 with (go_at_call 27; refine (HO.out _).mono ?_; clear HO; rintro e w3 ⟨rfl, G3, g3, c3, m3⟩; replace g3 := hid g3; replace c3 := hid c3; replace m3 := hid m3)
      clear b0 b1 b2 b3 b4 hb hlk
      have bx3 := hid (bx2.out.keep c3.out hno2.out)
      have hno3 := hid (m3.out.not hno2.out hl2.out)
      have hl3 := hid ((Array.getElem?_eq_some_iff.1 bx3.out).1)
      have p4 := hid (p3.out.step c3.out m3.out)
      have cc3 := hid (cc.out.two c3.out mm.out)
      have mm3 := hid (mm.out.two m3.out cc.out.size)
      obtain ⟨b0, b1, b2, b3, b4⟩ := bx3.out.cells
      have hb3 := g3.out.gm.cells.2.2.2.2.2.2.2.2
      have HU : Hid (∀ q, ∃ w4, (Instr.mapUpdate 56 (.map (some G3.r)) (.int .i64 r) (.int .i64 (Y.2.ops.length : Nat))).run Tryz.prog (w3.drewN q) = .ok () w4 ∧ GS w3 b G3 w4 { Y.2.putRow [] (-1) with rv := Dg.mput (r : Int) (Y.2.ops.length : Nat) Y.2.rv }) := hid fun q => by
        obtain ⟨w4, h4, g4⟩ := (g3.out.quiet ((Ch.refl _ _).dn q)).updR (r : Int) (Y.2.ops.length : Nat)
        exact ⟨w4, h4, GS.after ((Ch.refl _ _).dn q) (fun _ h => .inl h) g4⟩
      refine wp_region_split 7 1 (by kernel_rfl) rfl (by kernel_rfl) (by kernel_rfl) (by kernel_rfl) ?_
      simp only [List.take_succ_cons, List.take_zero]
      repeat (gi_big_quiet_step (fail))
      refine wpQuietIn_nil ?_
      intro _ hw'
      obtain ⟨nq1, hw''⟩ := hw'
      subst hw''
      obtain ⟨w4, h4, G4, g4, c4, m4⟩ := HU.out nq1
      clear HU
      replace g4 := hid g4
      replace c4 := hid c4
      replace m4 := hid m4
      refine wpAnyIn_ready (rs := [7]) (by kernel_rfl) (by simp) (AllReadyIn.cons rfl (fun K hK => ?_) AllReadyIn.nil)
      go_simp
      refine hK _ _ ?_
      clear hK K
      refine wpAnyIn_done (by kernel_rfl) ?_ _
      clear b0 b1 b2 b3 b4 hb3 h4
      have bx4 := hid (bx3.out.keep c4.out hno3.out)
      have hno4 := hid (m4.out.not hno3.out hl3.out)
      have p5 := hid (p4.out.step c4.out m4.out)
      have cc4 := hid (cc3.out.two c4.out mm3.out)
      have mm4 := hid (mm3.out.two m4.out cc3.out.size)
      obtain ⟨b0, b1, b2, b3, b4⟩ := bx4.out.cells
      go_upto_region 22 with (fail)
      clear b0 b1 b2 b3 b4
      obtain ⟨b0, b1, b2, b3, b4⟩ := (Bx.keep bx4.out (al_ch w4 (.cells #[] 9)) (fun h => h)).cells
      have hov2 := p5.out.ops hov.out (.cells #[] 9)
      have hF := Fresh.empty w4
      go_upto_region 23 with (first
        | (at_builtin; go_must (refine list_append_ov rfl (.tmp 87) (.tmp 89) rfl (l := ol) (xs := strs []) rfl rfl hF.1 hov2 (by simpa using hol.out) ?_); intro v' w5 hrow1 hgrow hblk; have hF5 := hF.more hrow1 hgrow hblk; clear hrow1 hgrow hblk hF hov2)
        | (go_at_call 28; refine (((g4.out.quiet hF5.2.1).PutRow hrz.out.small hF5.sv (hF5.apart g4.out.gm) (Y.2.ops.length : Int))).mono ?_; rintro e w6 ⟨rfl, G6, g6, c6, m6⟩; replace g6 := hid g6; replace c6 := hid c6; replace m6 := hid m6; replace hF5 := hid hF5))
      obtain ⟨b0, b1, b2, b3, b4⟩ := ((bx4.out.keep hF5.out.2.1 (fun h => h)).keep c6.out hno4.out).cells
      have HP := g6.out.Put (hrz.out.putRow ol (Y.2.ops.length : Int)).small 6 X.1 Y.1 ((Y.2.putRow [] (-1)).ops.length : Nat)
      go_wp2_with (go_at_call 29; refine HP.mono ?_; clear HP; rintro e w7 ⟨rfl, h7⟩)
      go_ret
      rw [ez.out]
      exact ⟨rfl, (GS.after cc4.out mm4.out (GS.after (hF5.out.2.1.mono (fun _ h => h.elim)) (fun _ h => .inl h) (GS.after c6.out m6.out h7))).al⟩
theorem Of_any (w0 : World) (b : Nat) : ∀ (t : Ty.P), OfOK w0 b t
  | .var n => fun h hr _ hi => Of_var h hr.small hi.1 hi.2
  | .int => fun h hr _ hi => Of_leaf 1 (by decide) (by decide) h hr.small hi.1 hi.2
  | .bool => fun h hr _ hi => Of_leaf 2 (by decide) (by decide) h hr.small hi.1 hi.2
  | .unit => fun h hr _ hi => Of_leaf 3 (by decide) (by decide) h hr.small hi.1 hi.2
  | .list a => Of_list (Of_any w0 b a)
  | .pair a a' => Of_pair (Of_any w0 b a) (Of_any w0 b a')
  | .fn a a' _ _ => Of_fn (Of_any w0 b a) (Of_any w0 b a')
end Go.Proofs.YtficijneelpmcaaGreat

namespace Go.Proofs.YtficijneelpmcaaGreat
open Go.RowKit

namespace Dg
abbrev NM := List (Int × Int) × List (Int × Int)
/-- The number of a row's variable; 0: there is none. -/
def rowNum (v : Int) (m : List (Int × Int)) : Option (Nat × List (Int × Int)) := if 0 < v then (if 0 ≤ (number m v).1 ∧ m.length < big then some ((number m v).1.toNat, (number m v).2) else none) else some (0, m)
def told (f : Nat) : Nat → D → Int → NM → Option (Ty.P × NM)
  | 0, _, _, _ => none
  | k + 1, d, n, N => (find f d.link n).bind fun n => (at? d.kind n).bind fun kd =>
    if kd = 0 then (if 0 ≤ (number N.1 n).1 ∧ N.1.length < big then some (.var (number N.1 n).1.toNat, ((number N.1 n).2, N.2)) else none) else
    (at? d.a n).bind fun a => (at? d.b n).bind fun b =>
    if kd = 1 ∧ a < 0 ∧ b < 0 then some (.int, N) else
    if kd = 2 ∧ a < 0 ∧ b < 0 then some (.bool, N) else
    if kd = 3 ∧ a < 0 ∧ b < 0 then some (.unit, N) else
    if kd = 4 ∧ 0 ≤ a ∧ b < 0 then (told f k d a N).bind fun x => some (.list x.1, x.2) else
    if kd = 5 ∧ 0 ≤ a ∧ 0 ≤ b then (told f k d a N).bind fun x => (told f k d b x.2).bind fun y => some (.pair x.1 y.1, y.2) else
    if kd = 6 ∧ 0 ≤ a ∧ 0 ≤ b then (told f k d a N).bind fun x => (at? d.row n).bind fun r => (whole f d r []).bind fun p => (rowNum p.2 x.2.2).bind fun q => (told f k d b (x.2.1, q.2)).bind fun y => some (.fn x.1 y.1 p.1 q.1, y.2) else none
end Dg
abbrev tyC (k n r : Int) (os az : Value) : List Value := [.int .i64 k, .int .i64 n, .int .i64 r, os, az]
def isSl (v : Value) : Prop := ∃ a n c, v = .slice a n c
theorem Tryz.infoType : (Tryz.prog.info? 32).map (fun i => (i.zero, i.size, i.bytes)) = some (some (.agg #[.int .i64 0, .int .i64 0, .int .i64 0, .slice none 0 0, .slice none 0 0]), 5, 72) := by kernel_rfl
theorem run_append_ty {w : World} {v : Value} {n : Nat} {xs : List Value} (hown : w.ownsRow 0 32 5 v n xs) {x : Nat} {k m r : Int} {os az : Value} (hx : w.heap[x]? = some (.cells #[.int .i64 k, .int .i64 m, .int .i64 r, os, az] 32 (0, 0))) (ho : isSl os) (ha : isSl az) (hn : n < 1000) (ty : TypeId) :
    ∃ v' w', (Builtin.append_ #[23, 23] ty #[v, .slice (some ⟨x, 0, none⟩) 1 1]).run Tryz.prog w = .ok v' w' ∧ w'.ownsRow 0 32 5 v' (n + 1) (xs ++ tyC k m r os az) ∧ w.grownBy w' v.ownBlock ∧ (v'.ownBlock = v.ownBlock ∨ v'.ownBlock = some w.heap.size) := by
  obtain ⟨i, hi, hzz⟩ := Option.map_eq_some_iff.1 Tryz.infoType
  simp only [Prod.mk.injEq] at hzz
  obtain ⟨hz, hs, hb⟩ := hzz
  obtain ⟨oa, on, oc, rfl⟩ := ho
  obtain ⟨aa, an, ac, rfl⟩ := ha
  obtain ⟨v', w', hr, h4, h5, h6, h7⟩ := run_append_own_at (P := Tryz.prog) w 0 23 ty 32 i _ 5 72 Tryz.underlying23 hi hz hs hb rfl (by decide) v n xs hown ⟨x, 0, none⟩ 1 1 (tyC k m r (.slice oa on oc) (.slice aa an ac)) rfl (fun j u hj => by
    rw [at_plain]
    unfold World.cell?
    rw [hx]
    have : j = 0 ∨ j = 1 ∨ j = 2 ∨ j = 3 ∨ j = 4 := by
      have := (List.getElem?_eq_some_iff.1 hj).1
      simp at this
      omega
    rcases this with rfl | rfl | rfl | rfl | rfl <;> (simp at hj; subst hj; rfl)) (fun u hu => by
    simp at hu
    rcases hu with rfl | rfl | rfl | rfl | rfl <;> rfl) (by unfold maxLen; omega) (by omega) (Nat.zero_le _)
  exact ⟨v', w', hr, h4, h5, h7⟩
/-- A type that lies in blocks from a number on. -/
structure Rb (n : Nat) (w : World) (t : Ty.P) (os az : Value) : Prop where
  so : isSl os
  sa : isSl az
  is : ∀ w' : World, (∀ k, n ≤ k → k < w.heap.size → w'.heap[k]? = w.heap[k]?) → IsT w' t os az
theorem Rb.isT {n : Nat} {w : World} {t : Ty.P} {os az : Value} (h : Rb n w t os az) : IsT w t os az := h.is w fun _ _ _ => rfl
theorem Rb.keep {n : Nat} {w w' : World} {t : Ty.P} {os az : Value} (h : Rb n w t os az) (hs : ∀ k, n ≤ k → k < w.heap.size → w'.heap[k]? = w.heap[k]?) (hz : w.heap.size ≤ w'.heap.size) : Rb n w' t os az :=
  ⟨h.so, h.sa, fun w2 h2 => h.is w2 fun k h3 h4 => (h2 k h3 (Nat.lt_of_lt_of_le h4 hz)).trans (hs k h3 h4)⟩
theorem Rb.le {n m : Nat} {w : World} {t : Ty.P} {os az : Value} (h : Rb n w t os az) (hm : m ≤ n) : Rb m w t os az := ⟨h.so, h.sa, fun w2 h2 => h.is w2 fun k h3 h4 => h2 k (Nat.le_trans hm h3) h4⟩
theorem Rb.ch {n : Nat} {w w' : World} {O : Nat → Prop} {t : Ty.P} {os az : Value} (h : Rb n w t os az) (hc : Ch O w w') (hO : ∀ k, n ≤ k → k < w.heap.size → ¬ O k) : Rb n w' t os az := h.keep (fun k h1 h2 => hc.same k h2 (hO k h1 h2)) hc.size
theorem nul_sl {v : Value} (h : Nul v) : isSl v := by obtain ⟨a, c, rfl⟩ := h; exact ⟨_, _, _, rfl⟩
/-- Cells of a row of types. -/
structure TyRow (n : Nat) (w : World) (v : Value) (m : Nat) (xs : List Value) : Prop where
  own : w.ownsRow 0 32 5 v m xs
  blk : ∀ k, v.ownBlock = some k → n ≤ k
theorem TyRow.nil (n : Nat) (w : World) : TyRow n w (.slice none 0 0) 0 [] := ⟨World.ownsRow_nil _ _ _ _, fun k hk => by cases hk⟩
theorem TyRow.ch {n : Nat} {w w' : World} {O : Nat → Prop} {v : Value} {m : Nat} {xs : List Value} (h : TyRow n w v m xs) (hc : Ch O w w') (hO : ∀ k, v.ownBlock = some k → ¬ O k) : TyRow n w' v m xs :=
  ⟨ownsRow_keep h.own (fun k hk => hc.same k (ownsRow_lt h.own hk) (hO k hk)), h.blk⟩
theorem TyRow.sl {n : Nat} {w : World} {v : Value} {m : Nat} {xs : List Value} (h : TyRow n w v m xs) : isSl v := by
  obtain ⟨a, c, e, _⟩ := row_slice h.own
  exact ⟨_, _, _, e⟩
theorem TyRow.cells {n : Nat} {w w' : World} {v : Value} {m : Nat} {xs : List Value} (h : TyRow n w v (m + 1) xs) (hs : ∀ k, n ≤ k → k < w.heap.size → w'.heap[k]? = w.heap[k]?) : ∃ g c, v = .slice (some ⟨g, 0, none⟩) (m + 1) c ∧ m + 1 ≤ c ∧ ∀ j u, xs[j]? = some u → w'.cell? ⟨g, j, none⟩ = some u := by
  have hown := h.own
  obtain ⟨g, c, rfl⟩ := ownsRow_succ hown
  have hg : n ≤ g := h.blk g rfl
  have hown' := ownsRow_keep (w' := w') hown (fun k hk => by
    have : g = k := Option.some.inj hk
    subst this
    exact hs g hg (ownsRow_lt hown rfl))
  obtain ⟨a, c', e, _, hc⟩ := row_slice hown
  simp only [Value.slice.injEq, true_and] at e
  obtain ⟨_, rfl⟩ := e
  exact ⟨g, c, rfl, hc, fun j u hj => row_cell hown' j u hj⟩
theorem Rb.leaf {n : Nat} {w : World} {t : Ty.P} {os az : Value} (ht : t.kind ≤ 3) (ho : Nul os) (ha : Nul az) : Rb n w t os az :=
  ⟨nul_sl ho, nul_sl ha, fun w' _ => by cases t <;> first | exact ⟨ho, ha⟩ | (simp [Ty.P.kind] at ht)⟩
theorem Rb.list {n : Nat} {w : World} {t : Ty.P} {os az os' az' : Value} (ho : Nul os) (h : Rb n w t os' az') (hr : TyRow n w az 1 (tyC t.kind t.num t.row os' az')) : Rb n w (.list t) os az :=
  ⟨nul_sl ho, hr.sl, fun w' hs => by
    obtain ⟨g, c, rfl, hc, hx⟩ := hr.cells hs
    exact ⟨ho, g, 0, c, os', az', rfl, hc, ⟨hx 0 _ rfl, hx 1 _ rfl, hx 2 _ rfl, hx 3 _ rfl, hx 4 _ rfl⟩, h.is w' hs⟩⟩
theorem Rb.pair {n : Nat} {w : World} {t t2 : Ty.P} {os az os' az' os2 az2 : Value} (ho : Nul os) (h : Rb n w t os' az') (h2 : Rb n w t2 os2 az2) (hr : TyRow n w az 2 (tyC t.kind t.num t.row os' az' ++ tyC t2.kind t2.num t2.row os2 az2)) : Rb n w (.pair t t2) os az :=
  ⟨nul_sl ho, hr.sl, fun w' hs => by
    obtain ⟨g, c, rfl, hc, hx⟩ := hr.cells hs
    exact ⟨ho, g, 0, c, os', az', os2, az2, rfl, hc, ⟨hx 0 _ rfl, hx 1 _ rfl, hx 2 _ rfl, hx 3 _ rfl, hx 4 _ rfl⟩, h.is w' hs, ⟨hx 5 _ rfl, hx 6 _ rfl, hx 7 _ rfl, hx 8 _ rfl, hx 9 _ rfl⟩, h2.is w' hs⟩⟩
theorem Rb.fn {n : Nat} {w : World} {t t2 : Ty.P} {os az os' az' os2 az2 : Value} {l : List (List UInt8)} {r : Nat} (ho : w.ownsRow 0 9 1 os l.length (strs l)) (hb : ∀ k, os.ownBlock = some k → n ≤ k) (h : Rb n w t os' az') (h2 : Rb n w t2 os2 az2) (hr : TyRow n w az 2 (tyC t.kind t.num t.row os' az' ++ tyC t2.kind t2.num t2.row os2 az2)) : Rb n w (.fn t t2 l r) os az :=
  ⟨by obtain ⟨a, c, e, _⟩ := row_slice ho; exact ⟨_, _, _, e⟩, hr.sl, fun w' hs => by
    obtain ⟨g, c, rfl, hc, hx⟩ := hr.cells hs
    refine ⟨?_, g, 0, c, os', az', os2, az2, rfl, hc, ⟨hx 0 _ rfl, hx 1 _ rfl, hx 2 _ rfl, hx 3 _ rfl, hx 4 _ rfl⟩, h.is w' hs, ⟨hx 5 _ rfl, hx 6 _ rfl, hx 7 _ rfl, hx 8 _ rfl, hx 9 _ rfl⟩, h2.is w' hs⟩
    have ho' := ownsRow_keep (w' := w') ho (fun k hk => hs k (hb k hk) (ownsRow_lt ho hk))
    obtain ⟨a, c2, e, ha, hc2⟩ := row_slice ho'
    refine ⟨a, c2, e, hc2, fun hl => ?_⟩
    rcases ha with ha | ⟨g2, rfl⟩
    · exact absurd (List.length_eq_zero_iff.1 ha) hl
    · refine ⟨g2, 0, rfl, fun i hi => ?_⟩
      rw [e] at ho'
      rw [Nat.zero_add]
      exact row_cell ho' i _ (by simp [strs, hi])⟩
end Go.Proofs.YtficijneelpmcaaGreat

namespace Go.Proofs.YtficijneelpmcaaGreat
open Go.RowKit

abbrev nmB (T R : Nat) : Obj := .cells #[.map (some T), .map (some R)] 58
abbrev ty0 (k : Int) : Obj := tyB k 0 0 (.slice none 0 0) (.slice none 0 0)
/-- The blocks of a call of Told. -/
abbrev W3 (w : World) (T R : Nat) (kd : Int) : World := ((w.alloc (nmB T R)).alloc (ty0 0)).alloc (ty0 kd)
theorem W3.ch (w : World) (T R : Nat) (kd : Int) : Ch (fun _ => False) w (W3 w T R kd) := ((al_ch w _).al _).al _
theorem W3.size (w : World) (T R : Nat) (kd : Int) : (W3 w T R kd).heap.size = w.heap.size + 3 := by simp [W3]
theorem W3.b0 (w : World) (T R : Nat) (kd : Int) : (W3 w T R kd).heap[w.heap.size]? = some (nmB T R) := blk_alloc (blk_alloc (World.alloc_heap_new w _))
theorem W3.b1 (w : World) (T R : Nat) (kd : Int) : (W3 w T R kd).heap[w.heap.size + 1]? = some (ty0 0) := by
  have h := World.alloc_heap_new (w.alloc (nmB T R)) (ty0 0)
  refine blk_alloc ?_
  simpa using h
theorem W3.b2 (w : World) (T R : Nat) (kd : Int) : (W3 w T R kd).heap[w.heap.size + 1 + 1]? = some (ty0 kd) := by
  have h := World.alloc_heap_new ((w.alloc (nmB T R)).alloc (ty0 0)) (ty0 kd)
  simpa using h
/-- The names of a call: two maps apart from the graph. -/
structure Nm2 (w : World) (b : Nat) (G : Gg) (T R : Nat) (N : Dg.NM) : Prop where
  oT : G.out b T
  oR : G.out b R
  ne : T ≠ R
  mT : MI w T N.1
  mR : MI w R N.2
abbrev isTR (T R : Nat) : Nat → Prop := fun j => j = T ∨ j = R
def ToldOK (b T R f k : Nat) : Prop := ∀ {w : World} {G : Gg} {d : Dg.D} {n : Int} {N N' : Dg.NM} {t : Ty.P}, GD w b G d → Nm2 w b G T R N → Dg.told f k d n N = some (t, N') →
  Calls Tryz.prog 18 #[.pointer (some ⟨b, 0, none⟩), .int .i64 n, .agg #[.map (some T), .map (some R)]] w fun e w' => ∃ os az, e = .returned (tyV t.kind t.num t.row os az) ∧ Rb w.heap.size w' t os az ∧ MI w' T N'.1 ∧ MI w' R N'.2 ∧ Ch (isTR T R) w w'
theorem Nm2.keep {w w' : World} {b : Nat} {G : Gg} {T R : Nat} {N : Dg.NM} (h : Nm2 w b G T R N) {O : Nat → Prop} (hc : Ch O w w') (hT : ¬ O T) (hR : ¬ O R) : Nm2 w' b G T R N :=
  ⟨h.oT, h.oR, h.ne, h.mT.keep (hc.same _ h.mT.lt hT), h.mR.keep (hc.same _ h.mR.lt hR)⟩
theorem nul0 : Nul (.slice none 0 0) := ⟨none, 0, rfl⟩

set_option maxRecDepth 100000 in
set_option maxHeartbeats 4000000 in
theorem Told_leaf {b T R f : Nat} {t : Ty.P} (ht : t.kind ≤ 3) (ht0 : t.kind ≠ 0) {w : World} {G : Gg} {d : Dg.D} {n : Int} {N : Dg.NM} (h : GD w b G d) (hN : Nm2 w b G T R N) {ni : Nat} (fn : Dg.find f d.link n = some (ni : Int)) {a c : Int} (hk : Dg.at? d.kind (ni : Int) = some (t.kind : Int)) (ha : Dg.at? d.a (ni : Int) = some a) (hc : Dg.at? d.b (ni : Int) = some c) (ha0 : a < 0) (hc0 : c < 0) :
    Calls Tryz.prog 18 #[.pointer (some ⟨b, 0, none⟩), .int .i64 n, .agg #[.map (some T), .map (some R)]] w fun e w' => ∃ os az, e = .returned (tyV t.kind 0 0 os az) ∧ Rb w.heap.size w' t os az ∧ MI w' T N.1 ∧ MI w' R N.2 ∧ Ch (isTR T R) w w' := by
  have k0 : ¬ (t.kind : Int) = 0 := by omega
  have k6 : ¬ (t.kind : Int) = 6 := by omega
  have a0 : ¬ 0 ≤ a := by omega
  have c0 : ¬ 0 ≤ c := by omega
  have H1 := (h.quiet ((al_ch w (nmB T R)).al (ty0 0))).Find fn
  obtain ⟨n', e, hnl⟩ := find_at fn
  have hn' : ni = n' := by omega
  subst hn'
  have n0 : (0 : Int) ≤ ni := by omega
  have hW := h.quiet ((al_ch w (nmB T R)).al (ty0 0))
  obtain ⟨zg, zc, z1, z2, _, z4⟩ := GD.intAt hW.gm (j := 0) (by omega) hW.x0 (at_nat hk)
  have zb := hW.gm.cells.1
  rw [z1] at zb
  have zi : (ni : Int) < (d.kind.length : Int) := by omega
  clear z1
  have hW3 := h.quiet (W3.ch w T R t.kind)
  obtain ⟨xg, xc, x1, x2, _, x4⟩ := GD.intAt hW3.gm (j := 1) (by omega) hW3.x1 (at_nat ha)
  have xb := hW3.gm.cells.2.1
  rw [x1] at xb
  have xi : (ni : Int) < (d.a.length : Int) := by omega
  clear x1
  obtain ⟨yg, yc, y1, y2, _, y4⟩ := GD.intAt hW3.gm (j := 2) (by omega) hW3.x2 (at_nat hc)
  have yb := hW3.gm.cells.2.2.1
  rw [y1] at yb
  have yi : (ni : Int) < (d.b.length : Int) := by omega
  clear y1
  have hm := hid (hN.keep (W3.ch w T R t.kind) (fun h => h) (fun h => h))
  clear hW hW3 hk ha hc fn e
  replace h := hid h
  replace hN := hid hN
  go_enter Tryz.func18, Tryz.ntmps18
  go_upto_region 3 with (go_at_call 30; refine H1.mono ?_; clear H1; rintro e w1 ⟨rfl, hw1⟩; obtain rfl := hw1.symm)
  go_wp2
  refine bodyPost_ret (v := tyV t.kind 0 0 (.slice none 0 0) (.slice none 0 0)) (by simp [results, Tryz.results18, go_sem]) rfl ⟨_, _, rfl, Rb.leaf ht nul0 nul0, ?_, ?_, ?_⟩
  · exact (hN.out.keep (((al_ch w _).al _).al _) (fun h => h) (fun h => h)).mT
  · exact (hN.out.keep (((al_ch w _).al _).al _) (fun h => h) (fun h => h)).mR
  · exact (((al_ch w _).al _).al _).mono (fun _ h => h.elim)
theorem ty_cells {w : World} {x : Nat} {k n r : Int} {os az : Value} (h : w.heap[x]? = some (tyB k n r os az)) : (w.cell? ⟨x, 0, none⟩ = some (.int .i64 k) ∧ w.cell? ⟨x, 1, none⟩ = some (.int .i64 n) ∧ w.cell? ⟨x, 2, none⟩ = some (.int .i64 r) ∧ w.cell? ⟨x, 3, none⟩ = some os ∧ w.cell? ⟨x, 4, none⟩ = some az) ∧ ∀ i, w.frozen? ⟨x, i, none⟩ = false :=
  ⟨Bx.cells h, fun i => by unfold World.frozen?; rw [h]; simp⟩
theorem ty_set {w : World} {x i : Nat} {k n r : Int} {os az v : Value} {o : Obj} (h : w.heap[x]? = some (tyB k n r os az)) (ho : Obj.cells (#[.int .i64 k, .int .i64 n, .int .i64 r, os, az].setIfInBounds i v) 32 (0, 0) = o) : (w.setCell ⟨x, i, none⟩ v).heap[x]? = some o := by
  rw [blk_set h, ← ho]
abbrev set5 (w : World) (x : Nat) (k n r : Int) (os az : Value) : World := ((((w.setCell ⟨x, 0, none⟩ (.int .i64 k)).setCell ⟨x, 1, none⟩ (.int .i64 n)).setCell ⟨x, 2, none⟩ (.int .i64 r)).setCell ⟨x, 3, none⟩ os).setCell ⟨x, 4, none⟩ az
theorem set5_blk {w : World} {x : Nat} {k n r k' n' r' : Int} {os az os' az' : Value} (h : w.heap[x]? = some (tyB k n r os az)) : (set5 w x k' n' r' os' az').heap[x]? = some (tyB k' n' r' os' az') :=
  ty_set (ty_set (ty_set (ty_set (ty_set h rfl) rfl) rfl) rfl) rfl
theorem Ch.setX {O : Nat → Prop} {w w' : World} (h : Ch O w w') (x i : Nat) (v : Value) (hx : O x ∨ w.heap.size ≤ x) : Ch O w (w'.setCell ⟨x, i, none⟩ v) := by
  refine h.trans (O1 := fun j => j = x) (Ch.setCell w' ⟨x, i, none⟩ v rfl) ?_
  rintro j rfl
  exact hx
theorem set5_ch {O : Nat → Prop} {w w' : World} (h : Ch O w w') {x : Nat} {k n r : Int} {os az : Value} (hx : O x ∨ w.heap.size ≤ x) : Ch O w (set5 w' x k n r os az) :=
  ((((h.setX x 0 _ hx).setX x 1 _ hx).setX x 2 _ hx).setX x 3 _ hx).setX x 4 _ hx
theorem Told_ret {Rr : Ending → World → Prop} {a : Act} {w : World} {x : Nat} {k n r : Int} {os az : Value} (hs : a.tmps[6]? = some (.pointer (some ⟨x, 0, none⟩))) (hd : a.defers = []) (hb : w.heap[x]? = some (tyB k n r os az)) (hR : Rr (.returned (tyV k n r os az)) w) : bodyPost Tryz.prog Tryz.f18 Rr .ret a w := by
  obtain ⟨h0, h1, h2, h3, h4⟩ := Bx.cells hb
  exact bodyPost_ret (v := tyV k n r os az) (by simp [results, Tryz.results18, go_sem, hs, h0, h1, h2, h3, h4]) hd hR

set_option maxRecDepth 100000 in
set_option maxHeartbeats 4000000 in
theorem Told_var {b T R f : Nat} {w : World} {G : Gg} {d : Dg.D} {n : Int} {N : Dg.NM} (h : GD w b G d) (hN : Nm2 w b G T R N) {ni : Nat} (fn : Dg.find f d.link n = some (ni : Int)) (hk : Dg.at? d.kind (ni : Int) = some 0) (hn : N.1.length < Dg.big) {m : Nat} (hm : (Dg.number N.1 ni).1 = (m : Int)) :
    Calls Tryz.prog 18 #[.pointer (some ⟨b, 0, none⟩), .int .i64 n, .agg #[.map (some T), .map (some R)]] w fun e w' => ∃ os az, e = .returned (tyV 0 m 0 os az) ∧ Rb w.heap.size w' (.var m) os az ∧ MI w' T (Dg.number N.1 ni).2 ∧ MI w' R N.2 ∧ Ch (isTR T R) w w' := by
  have H1 := (h.quiet ((al_ch w (nmB T R)).al (ty0 0))).Find fn
  obtain ⟨n', e, hnl⟩ := find_at fn
  have hn' : ni = n' := by omega
  subst hn'
  have n0 : (0 : Int) ≤ ni := by omega
  have hW := h.quiet ((al_ch w (nmB T R)).al (ty0 0))
  obtain ⟨zg, zc, z1, z2, _, z4⟩ := GD.intAt hW.gm (j := 0) (by omega) hW.x0 (at_nat hk)
  have zb := hW.gm.cells.1
  rw [z1] at zb
  have zi : (ni : Int) < (d.kind.length : Int) := by omega
  clear z1
  have hm3 := hid (hN.keep (W3.ch w T R 0) (fun h => h) (fun h => h))
  have H2 := number_any (W3 w T R 0) T N.1 hm3.out.mT hn ni
  rw [hm] at H2
  have hTl := hid hN.mT.lt
  clear hW hk fn e hm
  replace h := hid h
  replace hN := hid hN
  go_enter Tryz.func18, Tryz.ntmps18
  go_upto_region 3 with (go_at_call 30; refine H1.mono ?_; clear H1; rintro e w1 ⟨rfl, hw1⟩; obtain rfl := hw1.symm)
  go_upto_region 5 with (go_at_call 34; refine H2.mono ?_; clear H2; rintro e w1 ⟨rfl, s1, c1⟩; replace s1 := hid s1; obtain ⟨⟨p0, p1, p2, p3, p4⟩, pf⟩ := ty_cells (c1.keeps (W3.b2 w T R 0) (by have := hTl.out; omega)); obtain ⟨⟨q0, q1, q2, q3, q4⟩, qf⟩ := ty_cells (c1.keeps (W3.b1 w T R 0) (by have := hTl.out; omega)); replace c1 := hid c1)
  go_wp2
  have b1 : (w1.setCell ⟨w.heap.size + 1 + 1, 1, none⟩ (.int .i64 m)).heap[w.heap.size + 1]? = some (ty0 0) := by
    rw [Below.heap_setCell _ _ _ _ (by simp)]
    exact c1.out.keeps (W3.b1 w T R 0) (by have := hTl.out; omega)
  have cA : Ch (isTR T R) w (set5 (w1.setCell ⟨w.heap.size + 1 + 1, 1, none⟩ (.int .i64 m)) (w.heap.size + 1) 0 m 0 (.slice none 0 0) (.slice none 0 0)) := set5_ch (((((W3.ch w T R 0).mono (fun _ h => h.elim)).trans (c1.out.mono (fun _ h => .inl h)) (fun _ h => .inl h))).setX _ 1 _ (.inr (by omega))) (.inr (by omega))
  refine Told_ret rfl rfl (set5_blk b1) ⟨_, _, rfl, Rb.leaf (by simp [Ty.P.kind]) nul0 nul0, s1.out.keep ?_, ?_, cA⟩
  · have hT := hTl.out
    try simp only [set5]
    repeat rw [Below.heap_setCell _ _ _ _ (by simp; omega)]
  · refine hN.out.mR.keep ?_
    have hR := hN.out.mR.lt
    have hc : Ch (fun j => j = T) w (set5 (w1.setCell ⟨w.heap.size + 1 + 1, 1, none⟩ (.int .i64 m)) (w.heap.size + 1) 0 m 0 (.slice none 0 0) (.slice none 0 0)) := set5_ch (((((W3.ch w T R 0).mono (fun _ h => h.elim)).trans c1.out (fun _ h => .inl h))).setX _ 1 _ (.inr (by omega))) (.inr (by omega))
    exact hc.same R hR (fun e => hN.out.ne e.symm)
end Go.Proofs.YtficijneelpmcaaGreat
