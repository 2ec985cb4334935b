import Derived.Test.YtejciampbnfbhaaMTy
import Derived.WalkKit
import Derived.ProofKit
import Derived.Test.YtejciampbnfbhaaMDo
set_option linter.unusedVariables false
set_option linter.unusedSimpArgs false
set_option maxRecDepth 100000
set_option maxHeartbeats 8000000
namespace Go.Proofs.Ytejciampbnfbhaa
open Go.RowKit
def Nul (v : Value) : Prop := ∃ a c, v = .slice a 0 c
def OpsV (w : World) (v : Value) (o : List (List UInt8)) : Prop :=
 ∃ (a : Option Addr) (c : Nat), v = .slice a o.length c ∧ o.length ≤ c ∧ (o ≠ [] → ∃ g k, a = some ⟨g, k, none⟩ ∧ ∀ i (h : i < o.length), w.cell? ⟨g, k + i, none⟩ = some (.string ⟨o[i].toArray⟩))
def El (w : World) (g o : Nat) (k n r : Int) (os az : Value) : Prop :=
 w.cell? ⟨g, o, none⟩ = some (.int .i64 k) ∧ w.cell? ⟨g, o + 1, none⟩ = some (.int .i64 n) ∧ w.cell? ⟨g, o + 2, none⟩ = some (.int .i64 r) ∧
 w.cell? ⟨g, o + 3, none⟩ = some os ∧ w.cell? ⟨g, o + 4, none⟩ = some az
def ElT (w : World) (g o : Nat) (t : Ty.P) (os az : Value) : Prop := El w g o t.kind t.num t.row os az
def IsT (w : World) : Ty.P → Value → Value → Prop
 | .list a, os, az => Nul os ∧ ∃ g o c os' az', az = .slice (some ⟨g, o, none⟩) 1 c ∧ 1 ≤ c ∧ ElT w g o a os' az' ∧ IsT w a os' az'
 | .pair a b, os, az => Nul os ∧ ∃ g o c os' az' os2 az2, az = .slice (some ⟨g, o, none⟩) 2 c ∧ 2 ≤ c ∧ ElT w g o a os' az' ∧ IsT w a os' az' ∧ ElT w g (o + 5) b os2 az2 ∧ IsT w b os2 az2
 | .fn a b l _, os, az => OpsV w os l ∧ ∃ g o c os' az' os2 az2, az = .slice (some ⟨g, o, none⟩) 2 c ∧ 2 ≤ c ∧ ElT w g o a os' az' ∧ IsT w a os' az' ∧ ElT w g (o + 5) b os2 az2 ∧ IsT w b os2 az2
 | _, os, az => Nul os ∧ Nul az
def Cel (w : World) (b : Nat) : Prop := ∃ i v, w.cell? ⟨b, i, none⟩ = some v
theorem Cel.lt {w : World} {b : Nat} (h : Cel w b) : b < w.heap.size := by
 obtain ⟨i, v, h⟩ := h
 exact World.block_lt_of_cell? w ⟨b, i, none⟩ h
theorem El.cel {w : World} {g o : Nat} {k n r : Int} {os az : Value} (h : El w g o k n r os az) : Cel w g := ⟨_, _, h.1⟩
theorem El.lt {w : World} {g o : Nat} {k n r : Int} {os az : Value} (h : El w g o k n r os az) : g < w.heap.size := World.block_lt_of_cell? w ⟨g, o, none⟩ h.1
theorem El.of_heap {w w' : World} {g o : Nat} {k n r : Int} {os az : Value} (h : El w g o k n r os az) (hh : w'.heap[g]? = w.heap[g]?) : El w' g o k n r os az := by
 obtain ⟨h0, h1, h2, h3, h4⟩ := h
 exact ⟨(World.cell?_of_block (a := ⟨g, _, none⟩) hh).trans h0, (World.cell?_of_block (a := ⟨g, _, none⟩) hh).trans h1, (World.cell?_of_block (a := ⟨g, _, none⟩) hh).trans h2,
  (World.cell?_of_block (a := ⟨g, _, none⟩) hh).trans h3, (World.cell?_of_block (a := ⟨g, _, none⟩) hh).trans h4⟩
theorem OpsV.carry {w w' : World} {v : Value} {o : List (List UInt8)} (h : OpsV w v o) (hw : ∀ b, Cel w b → w'.heap[b]? = w.heap[b]?) : OpsV w' v o := by
 obtain ⟨a, c, h1, h2, h3⟩ := h
 refine ⟨a, c, h1, h2, fun h0 => ?_⟩
 obtain ⟨g, k, ha, hc⟩ := h3 h0
 have hlt : Cel w g := ⟨_, _, hc 0 (List.length_pos_iff.2 h0)⟩
 exact ⟨g, k, ha, fun i hi => (World.cell?_of_block (a := ⟨g, k + i, none⟩) (hw g hlt)).trans (hc i hi)⟩
theorem IsT.carry {w w' : World} (hw : ∀ b, Cel w b → w'.heap[b]? = w.heap[b]?) : ∀ {t : Ty.P} {os az : Value}, IsT w t os az → IsT w' t os az := by
 intro t
 induction t with
 | var n => intro os az h; exact h
 | int => intro os az h; exact h
 | bool => intro os az h; exact h
 | unit => intro os az h; exact h
 | list a ih =>
  rintro os az ⟨h0, g, o, c, os', az', h1, h2, h3, h4⟩
  exact ⟨h0, g, o, c, os', az', h1, h2, El.of_heap h3 (hw g (El.cel h3)), ih h4⟩
 | pair a b iha ihb =>
  rintro os az ⟨h0, g, o, c, os', az', os2, az2, h1, h2, h3, h4, h5, h6⟩
  exact ⟨h0, g, o, c, os', az', os2, az2, h1, h2, El.of_heap h3 (hw g (El.cel h3)), iha h4, El.of_heap h5 (hw g (El.cel h5)), ihb h6⟩
 | fn a b l r iha ihb =>
  rintro os az ⟨h0, g, o, c, os', az', os2, az2, h1, h2, h3, h4, h5, h6⟩
  exact ⟨h0.carry hw, g, o, c, os', az', os2, az2, h1, h2, El.of_heap h3 (hw g (El.cel h3)), iha h4, El.of_heap h5 (hw g (El.cel h5)), ihb h6⟩
theorem IsT.past {w w' : World} {t : Ty.P} {os az : Value} (h : IsT w t os az) (hb : Below w.heap.size w w') : IsT w' t os az := IsT.carry (fun b hb2 => hb.block b hb2.lt) h
theorem IsT.alloc {w : World} {t : Ty.P} {os az : Value} (h : IsT w t os az) (o : Obj) : IsT (w.alloc o) t os az := h.past ((Below.refl _ _).alloc (Nat.le_refl _) _)
theorem IsT.slices {w : World} {t : Ty.P} {os az : Value} (h : IsT w t os az) : ∃ a c b l d, os = .slice a t.ops.length c ∧ az = .slice b l d ∧ l = (match t with | .list _ => 1 | .pair _ _ => 2 | .fn _ _ _ _ => 2 | _ => 0) := by
 cases t with
 | list a =>
  obtain ⟨⟨a, c, h0⟩, g, o, d, os', az', h1, _⟩ := h
  exact ⟨a, c, _, _, _, h0, h1, rfl⟩
 | pair a b =>
  obtain ⟨⟨a, c, h0⟩, g, o, d, os', az', os2, az2, h1, _⟩ := h
  exact ⟨a, c, _, _, _, h0, h1, rfl⟩
 | fn a b l r =>
  obtain ⟨⟨a, c, h0, _⟩, g, o, d, os', az', os2, az2, h1, _⟩ := h
  exact ⟨a, c, _, _, _, h0, h1, rfl⟩
 | var n => obtain ⟨⟨a, c, h0⟩, b, d, h1⟩ := h; exact ⟨a, c, b, _, d, h0, h1, rfl⟩
 | int => obtain ⟨⟨a, c, h0⟩, b, d, h1⟩ := h; exact ⟨a, c, b, _, d, h0, h1, rfl⟩
 | bool => obtain ⟨⟨a, c, h0⟩, b, d, h1⟩ := h; exact ⟨a, c, b, _, d, h0, h1, rfl⟩
 | unit => obtain ⟨⟨a, c, h0⟩, b, d, h1⟩ := h; exact ⟨a, c, b, _, d, h0, h1, rfl⟩
end Go.Proofs.Ytejciampbnfbhaa

namespace Go.Proofs.Ytejciampbnfbhaa
open Go.RowKit
namespace Dg
def rowVar (r : Nat) (d : D) : Int × D := if r = 0 then (0, d) else match d.rv.lookup (r : Int) with
 | some n => (n, d)
 | none => ((d.ops.length : Int), { d.putRow [] (-1) with rv := mput (r : Int) (d.ops.length : Int) d.rv })
def of : Ty.P → D → Int × D
 | .var n, d => match d.tv.lookup (n : Int) with
  | some k => (k, d)
  | none => ((d.kind.length : Int), { d.put 0 (-1) (-1) 0 with tv := mput (n : Int) (d.kind.length : Int) d.tv })
 | .int, d => ((d.kind.length : Int), d.put 1 (-1) (-1) 0)
 | .bool, d => ((d.kind.length : Int), d.put 2 (-1) (-1) 0)
 | .unit, d => ((d.kind.length : Int), d.put 3 (-1) (-1) 0)
 | .list a, d => (((of a d).2.kind.length : Int), (of a d).2.put 4 (of a d).1 (-1) 0)
 | .pair a b, d => (((of b (of a d).2).2.kind.length : Int), (of b (of a d).2).2.put 5 (of a d).1 (of b (of a d).2).1 0)
 | .fn a b o r, d =>
  let x := of a d
  let y := of b x.2
  let z := rowVar r y.2
  let u := z.2.putRow o z.1
  ((u.kind.length : Int), u.put 6 x.1 y.1 (z.2.ops.length : Int))
structure D.room (d : D) (N : Nat) : Prop where
 r0 : d.kind.length + N < big
 r1 : d.a.length + N < big
 r2 : d.b.length + N < big
 r3 : d.row.length + N < big
 r4 : d.link.length + N < big
 r5 : d.ops.length + N < big
 r6 : d.next.length + N < big
theorem D.room.small {d : D} {N : Nat} (h : d.room N) : d.small := ⟨by have := h.r0; omega, by have := h.r1; omega, by have := h.r2; omega, by have := h.r3; omega, by have := h.r4; omega, by have := h.r5; omega, by have := h.r6; omega⟩
theorem D.room.le {d : D} {N M : Nat} (h : d.room N) (hm : M ≤ N) : d.room M := ⟨by have := h.r0; omega, by have := h.r1; omega, by have := h.r2; omega, by have := h.r3; omega, by have := h.r4; omega, by have := h.r5; omega, by have := h.r6; omega⟩
theorem D.room.put {d : D} {N : Nat} (h : d.room (N + 1)) (k a b r : Int) : (d.put k a b r).room N := by
 obtain ⟨h0, h1, h2, h3, h4, h5, h6⟩ := h
 constructor <;> simp only [D.put, List.length_append, List.length_cons, List.length_nil] <;> omega
theorem D.room.putRow {d : D} {N : Nat} (h : d.room (N + 1)) (o : List Un.Nm) (x : Int) : (d.putRow o x).room N := by
 obtain ⟨h0, h1, h2, h3, h4, h5, h6⟩ := h
 constructor <;> simp only [D.putRow, List.length_append, List.length_cons, List.length_nil] <;> omega
theorem D.room.tv {d : D} {N : Nat} (h : d.room N) (m : List (Int × Int)) : D.room { d with tv := m } N := ⟨h.r0, h.r1, h.r2, h.r3, h.r4, h.r5, h.r6⟩
theorem D.room.rv {d : D} {N : Nat} (h : d.room N) (m : List (Int × Int)) : D.room { d with rv := m } N := ⟨h.r0, h.r1, h.r2, h.r3, h.r4, h.r5, h.r6⟩
theorem rowVar_room {d : D} {N : Nat} (h : d.room (N + 1)) (r : Nat) : (rowVar r d).2.room N := by
 unfold rowVar
 split
 ·exact h.le (by omega)
 ·split
  ·exact h.le (by omega)
  ·exact (h.putRow _ _).rv _
theorem of_room : ∀ (t : Ty.P) {d : D} {N : Nat}, d.room (N + 3 * t.parts) → (of t d).2.room N := by
 intro t
 induction t with
 | var n =>
  intro d N h
  unfold of
  simp only [Ty.P.parts] at h
  split
  ·exact h.le (by omega)
  ·exact ((h.le (by omega : N + 1 ≤ _)).put _ _ _ _).tv _
 | int => intro d N h; simp only [Ty.P.parts] at h; exact (h.le (by omega : N + 1 ≤ _)).put _ _ _ _
 | bool => intro d N h; simp only [Ty.P.parts] at h; exact (h.le (by omega : N + 1 ≤ _)).put _ _ _ _
 | unit => intro d N h; simp only [Ty.P.parts] at h; exact (h.le (by omega : N + 1 ≤ _)).put _ _ _ _
 | list a ih => intro d N h; simp only [Ty.P.parts] at h; exact (ih (N := N + 1) (h.le (by omega))).put _ _ _ _
 | pair a b iha ihb => intro d N h; simp only [Ty.P.parts] at h; exact (ihb (N := N + 1) (iha (N := N + 1 + 3 * b.parts) (h.le (by omega)))).put _ _ _ _
 | fn a b o r iha ihb =>
  intro d N h
  simp only [Ty.P.parts] at h
  exact (((rowVar_room (ihb (N := N + 1 + 1 + 1) (iha (N := N + 1 + 1 + 1 + 3 * b.parts) (h.le (by omega)))) r).putRow _ _).put _ _ _ _)
end Dg
theorem GM.updT {w w' : World} {b : Nat} {G : Gg} (h : GM w b G) {m : List (Int × Int)} (hm : MI w' G.t m) (hc : Ch (fun j => j = G.t) w w') : GM w' b { G with tv := m } := by
 have hs : ∀ k, G.own b k → k ≠ G.t → w'.heap[k]? = w.heap[k]? := fun k hk hne => hc.same k (h.lt hk) hne
 refine ⟨(hs b (.inl rfl) h.d3.1).trans h.blk, fun i hi => ownsRow_keep (h.row i hi) (fun k hk => hs k (.inr (.inl ⟨i, hi, hk⟩)) (fun e => (h.d2 i hi).2.1 (e ▸ hk))), hm, h.mr.keep (hs _ (.inr (.inr (.inr rfl))) (fun e => h.d3.2.2 e.symm)), h.d1, h.d2, h.d3⟩
theorem GM.updR {w w' : World} {b : Nat} {G : Gg} (h : GM w b G) {m : List (Int × Int)} (hm : MI w' G.r m) (hc : Ch (fun j => j = G.r) w w') : GM w' b { G with rv := m } := by
 have hs : ∀ k, G.own b k → k ≠ G.r → w'.heap[k]? = w.heap[k]? := fun k hk hne => hc.same k (h.lt hk) hne
 refine ⟨(hs b (.inl rfl) h.d3.2.1).trans h.blk, fun i hi => ownsRow_keep (h.row i hi) (fun k hk => hs k (.inr (.inl ⟨i, hi, hk⟩)) (fun e => (h.d2 i hi).2.2 (e ▸ hk))), h.mt.keep (hs _ (.inr (.inr (.inl rfl))) h.d3.2.2), hm, h.d1, h.d2, h.d3⟩
theorem GD.updT {w : World} {b : Nat} {G : Gg} {d : Dg.D} (h : GD w b G d) (k v : Int) : ∃ w', (Instr.mapUpdate 77 (.map (some G.t)) (.int .i64 k) (.int .i64 v)).run Try.prog w = .ok () w' ∧ GS w b G w' { d with tv := Dg.mput k v d.tv } := by
 have hm := h.gm.mt
 rw [h.tv] at hm
 obtain ⟨w', h1, h2, h3⟩ := run_upd hm k v
 have hO : ∀ j, j = G.t → G.own b j := fun j e => .inr (.inr (.inl e))
 refine ⟨w', h1, { G with tv := Dg.mput k v d.tv }, ⟨h.gm.updT h2 h3, h.x0, h.x1, h.x2, h.x3, h.x4, h.x6, h.ol, fun i o ho => ?_, rfl, h.rv⟩, h3.mono hO, fun _ h => .inl h⟩
 obtain ⟨u, u1, u2, u3⟩ := h.ov i o ho
 exact ⟨u, u1, u2.keep h3 (fun k hk e => u3 k hk (hO k e)), u3⟩
theorem GD.updR {w : World} {b : Nat} {G : Gg} {d : Dg.D} (h : GD w b G d) (k v : Int) : ∃ w', (Instr.mapUpdate 77 (.map (some G.r)) (.int .i64 k) (.int .i64 v)).run Try.prog w = .ok () w' ∧ GS w b G w' { d with rv := Dg.mput k v d.rv } := by
 have hm := h.gm.mr
 rw [h.rv] at hm
 obtain ⟨w', h1, h2, h3⟩ := run_upd hm k v
 have hO : ∀ j, j = G.r → G.own b j := fun j e => .inr (.inr (.inr e))
 refine ⟨w', h1, { G with rv := Dg.mput k v d.rv }, ⟨h.gm.updR h2 h3, h.x0, h.x1, h.x2, h.x3, h.x4, h.x6, h.ol, fun i o ho => ?_, h.tv, rfl⟩, h3.mono hO, fun _ h => .inl h⟩
 obtain ⟨u, u1, u2, u3⟩ := h.ov i o ho
 exact ⟨u, u1, u2.keep h3 (fun k hk e => u3 k hk (hO k e)), u3⟩
theorem run_append_ov {w : World} {v : Value} {n : Nat} {xs : List Value} (hown : w.ownsRow 0 9 1 v n xs) {u : Value} {l : List (List UInt8)} (hu : OpsV w u l) (hn : n + l.length < 4000000000) (ty : TypeId) :
  ∃ v' w', (Builtin.append_ #[46, 46] ty #[v, u]).run Try.prog w = .ok v' w' ∧ w'.ownsRow 0 9 1 v' (n + l.length) (xs ++ strs l) ∧ w.grownBy w' v.ownBlock ∧ (v'.ownBlock = v.ownBlock ∨ v'.ownBlock = some w.heap.size) := by
 obtain ⟨i, hi, hzz⟩ := Option.map_eq_some_iff.1 Try.info9
 simp only [Prod.mk.injEq] at hzz
 obtain ⟨hz, hs, hb⟩ := hzz
 obtain ⟨a, c, rfl, hc, h3⟩ := hu
 cases a with
 | none =>
  have hl : l = [] := Classical.byContradiction fun h0 => by obtain ⟨g, k, e, _⟩ := h3 h0; cases e
  subst hl
  refine ⟨v, w, ?_, by simpa [strs] using hown, World.grownBy.refl _ _, .inl rfl⟩
  rcases hown.2 with ⟨rfl, rfl⟩ | ⟨g, cap, cur, rfl, _, _, hnc, _⟩
  ·simp [Builtin.append_, run_underlying Try.underlying46, sizeOf, typeInfo, hi, Builtin.lenOf, Builtin.firstCells]
  ·simp [Builtin.append_, run_underlying Try.underlying46, sizeOf, typeInfo, hi, Builtin.lenOf, Builtin.firstCells, hnc, storeCells]
 | some a =>
  obtain ⟨v', w', hr, h4, h5, h6, h7⟩ := run_append_own_at (P := Try.prog) w 0 46 ty 9 i _ 1 16 Try.underlying46 hi hz hs hb rfl (by decide) v n xs hown a l.length c (strs l) (by simp [strs]) (fun j u hj => by
   obtain ⟨s, hs, rfl⟩ : ∃ s, l[j]? = some s ∧ str s = u := by simpa [strs] using hj
   have hjl := (List.getElem?_eq_some_iff.1 hs).1; obtain ⟨g, k, e, h4⟩ := h3 (fun e => by rw [e] at hjl; exact absurd hjl (Nat.not_lt_zero _)); obtain rfl := Option.some.inj e
   rw [at_plain, h4 j hjl, (List.getElem?_eq_some_iff.1 hs).2]) (fun u hu => by
   obtain ⟨s, _, rfl⟩ : ∃ s ∈ l, str s = u := by simpa [strs] using hu
   rfl) (by unfold maxLen; omega) (by omega) (Nat.zero_le _)
  exact ⟨v', w', hr, h4, h5, h7⟩
end Go.Proofs.Ytejciampbnfbhaa

namespace Go.Proofs.Ytejciampbnfbhaa
open Go.RowKit
structure Past (w0 w : World) (b : Nat) (G : Gg) : Prop where
 lt : ∀ k, Cel w0 k → k < w.heap.size
 same : ∀ k, Cel w0 k → w.heap[k]? = w0.heap[k]?
 own : ∀ k, G.own b k → ¬ Cel w0 k
theorem Past.step {w0 w w' : World} {b : Nat} {G G' : Gg} (h : Past w0 w b G) (hc : Ch (G.own b) w w') (hm : More w (G.own b) (G'.own b)) : Past w0 w' b G' :=
 ⟨fun k hk => Nat.lt_of_lt_of_le (h.lt k hk) hc.size, fun k hk => (hc.same k (h.lt k hk) (fun ho => h.own k ho hk)).trans (h.same k hk), fun k hk hq => by
  rcases hm k hk with h1 | h1
  ·exact h.own k h1 hq
  ·exact Nat.lt_irrefl _ (Nat.lt_of_lt_of_le (h.lt k hq) h1)⟩
theorem Past.al {w0 w : World} {b : Nat} {G : Gg} (h : Past w0 w b G) (o : Obj) : Past w0 (w.alloc o) b G := h.step ((al_ch w o).mono (fun _ h => h.elim)) (fun _ h => .inl h)
theorem Past.el {w0 w : World} {b : Nat} {G : Gg} (h : Past w0 w b G) {g o : Nat} {k n r : Int} {os az : Value} (hi : El w0 g o k n r os az) : El w g o k n r os az := hi.of_heap (h.same g hi.cel)
theorem Ch.keeps {O : Nat → Prop} {w w' : World} (h : Ch O w w') {k : Nat} {o : Obj} (hk : w.heap[k]? = some o) (hO : ¬ O k) : w'.heap[k]? = some o := (h.same k (Array.getElem?_eq_some_iff.1 hk).1 hO).trans hk
theorem GS.al {w w2 : World} {b : Nat} {G : Gg} {d : Dg.D} {o : Obj} (h : GS (w.alloc o) b G w2 d) : GS w b G w2 d := GS.after ((al_ch w o).mono (fun _ h => h.elim)) (fun _ h => .inl h) h
abbrev tyV (k n r : Int) (os az : Value) : Value := .agg #[.int .i64 k, .int .i64 n, .int .i64 r, os, az]
abbrev tyB (k n r : Int) (os az : Value) : Obj := .cells #[.int .i64 k, .int .i64 n, .int .i64 r, os, az] 49
def OfOK (w0 : World) (b : Nat) (t : Ty.P) : Prop := ∀ {w : World} {G : Gg} {d : Dg.D} {os az : Value}, GD w b G d → d.room (3 * t.parts) → Past w0 w b G → IsT w0 t os az →
 Calls Try.prog 87 #[.pointer (some ⟨b, 0, none⟩), tyV t.kind t.num t.row os az] w fun e w' => e = .returned (.int .i64 (Dg.of t d).1) ∧ GS w b G w' (Dg.of t d).2
theorem Of_leaf (k : Int) (hk0 : k ≠ 0) (hk6 : k ≠ 6) {w : World} {b : Nat} {G : Gg} {d : Dg.D} {os az : Value} (h : GD w b G d) (hs : d.small) (ho : Nul os) (ha : Nul az) :
  Calls Try.prog 87 #[.pointer (some ⟨b, 0, none⟩), tyV k 0 0 os az] w fun e w' => e = .returned (.int .i64 (d.kind.length : Nat)) ∧ GS w b G w' (d.put k (-1) (-1) 0) := by
 obtain ⟨oa, oc, rfl⟩ := ho
 obtain ⟨aa, ac, rfl⟩ := ha
 have HP := (h.quiet (al_ch w (tyB k 0 0 (.slice oa 0 oc) (.slice aa 0 ac)))).Put hs k (-1) (-1) 0
 replace h := hid h
 go_enter Try.func87, Try.ntmps87
 go_wp2_with (go_at_call 63; refine HP.mono ?_; clear HP; rintro e w1 ⟨rfl, h1⟩)
 go_ret
 exact ⟨rfl, h1.al⟩
theorem Of_var {n : Nat} {w : World} {b : Nat} {G : Gg} {d : Dg.D} {os az : Value} (h : GD w b G d) (hs : d.small) (ho : Nul os) (ha : Nul az) :
  Calls Try.prog 87 #[.pointer (some ⟨b, 0, none⟩), tyV 0 n 0 os az] w fun e w' => e = .returned (.int .i64 (Dg.of (.var n) d).1) ∧ GS w b G w' (Dg.of (.var n) d).2 := by
 obtain ⟨oa, oc, rfl⟩ := ho
 obtain ⟨aa, ac, rfl⟩ := ha
 have h1 := h.quiet (al_ch w (tyB 0 n 0 (.slice oa 0 oc) (.slice aa 0 ac)))
 have mt := h1.gm.mt
 rw [h1.tv] at mt
 have hlk := fun q => run_lookOk (mt.keep (w' := (w.alloc (tyB 0 n 0 (.slice oa 0 oc) (.slice aa 0 ac))).drewN q) rfl) (n : Int)
 have hb := h1.gm.cells.2.2.2.2.2.2.2.1
 have hf := h1.gm.frozen 7
 unfold Dg.of
 cases hx : d.tv.lookup (n : Int) with
 | some k =>
  simp only [hx, Option.getD_some, Option.isSome_some] at hlk
  dsimp only
  have h1' := hid h1
  clear h1 mt hx
  replace h := hid h
  go_enter Try.func87, Try.ntmps87
  go_upto_region 2 with (fail)
  go_quiet (fail)
  go_wp2
  go_ret
  exact ⟨rfl, (GS.refl h.out).quiet (((Ch.refl _ _).al _).dn _)⟩
 | none =>
  simp only [hx, Option.getD_none, Option.isSome_none] at hlk
  dsimp only
  have HP : ∀ q, Calls Try.prog 51 #[.pointer (some ⟨b, 0, none⟩)] ((w.alloc (tyB 0 n 0 (.slice oa 0 oc) (.slice aa 0 ac))).drewN q) fun e w' => e = .returned (.int .i64 (d.kind.length : Nat)) ∧ GS (w.alloc (tyB 0 n 0 (.slice oa 0 oc) (.slice aa 0 ac))) b G w' (d.put 0 (-1) (-1) 0) := fun q => ((h1.quiet ((Ch.refl _ _).dn q)).Var hs).mono (by
   rintro e w2 ⟨rfl, g2⟩
   exact ⟨rfl, GS.after ((Ch.refl _ _).dn q) (fun _ h => .inl h) g2⟩)
  replace HP := hid HP
  have hbx : (w.alloc (tyB 0 n 0 (.slice oa 0 oc) (.slice aa 0 ac))).heap[w.heap.size]? = some (tyB 0 n 0 (.slice oa 0 oc) (.slice aa 0 ac)) := World.alloc_heap_new w _
  have hnb : ¬ G.own b w.heap.size := fun e => Nat.lt_irrefl _ (h.gm.lt e)
  replace hbx := hid hbx
  replace hnb := hid hnb
  have h1' := hid h1
  clear h1 mt hx
  replace h := hid h
  go_enter Try.func87, Try.ntmps87
  go_upto_region 2 with (fail)
  go_quiet (fail)
  go_upto_region 5 with (go_at_call 51; refine (HP.out _).mono ?_; clear HP; rintro e w2 ⟨rfl, G2, g2, c2, m2⟩; replace g2 := hid g2; replace c2 := hid c2; replace m2 := hid m2)
  have cb := c2.out.keeps hbx.out hnb.out
  have hb2 := g2.out.gm.cells.2.2.2.2.2.2.2.1
  have hcn : w2.cell? ⟨w.heap.size, 1, none⟩ = some (.int .i64 n) := by unfold World.cell?; rw [cb]; rfl
  have HU : ∀ q, ∃ w3, (Instr.mapUpdate 77 (.map (some G2.t)) (.int .i64 n) (.int .i64 (d.kind.length : Nat))).run Try.prog (w2.drewN q) = .ok () w3 ∧ GS w2 b G2 w3 { d.put 0 (-1) (-1) 0 with tv := Dg.mput n (d.kind.length : Nat) d.tv } := fun q => by
   obtain ⟨w3, h3, g3⟩ := (g2.out.quiet ((Ch.refl _ _).dn q)).updT (n : Int) (d.kind.length : Nat); exact ⟨w3, h3, GS.after ((Ch.refl _ _).dn q) (fun _ h => .inl h) g3⟩
  replace HU := hid HU
  clear cb hlk hb hf
  refine wp_region_split 7 1 (by kernel_rfl) rfl (by kernel_rfl) (by kernel_rfl) (by kernel_rfl) ?_
  simp only [List.take_succ_cons, List.take_zero]
  repeat (gi_big_quiet_step (fail))
  refine wpQuietIn_nil ?_
  intro _ hw'
  obtain ⟨nq1, hw''⟩ := hw'
  subst hw''
  obtain ⟨w3, h3, g3⟩ := HU.out nq1
  clear HU
  replace g3 := hid g3
  refine wpAnyIn_ready (rs := [7]) (by kernel_rfl) (by simp) (AllReadyIn.cons rfl (fun K hK => ?_) AllReadyIn.nil)
  go_simp
  refine hK _ _ ?_
  clear hK K
  refine wpAnyIn_done (by kernel_rfl) ?_ _
  go_wp2
  go_ret
  exact ⟨rfl, (GS.after c2.out m2.out g3.out).al⟩
end Go.Proofs.Ytejciampbnfbhaa

namespace Go.Proofs.Ytejciampbnfbhaa
open Go.RowKit
def Bx (w : World) (x : Nat) (k n r : Int) (os az : Value) : Prop := w.heap[x]? = some (tyB k n r os az)
theorem Bx.cells {w : World} {x : Nat} {k n r : Int} {os az : Value} (h : Bx w x k n r os az) : w.cell? ⟨x, 0, none⟩ = some (.int .i64 k) ∧ w.cell? ⟨x, 1, none⟩ = some (.int .i64 n) ∧ w.cell? ⟨x, 2, none⟩ = some (.int .i64 r) ∧ w.cell? ⟨x, 3, none⟩ = some os ∧ w.cell? ⟨x, 4, none⟩ = some az := by
 unfold Bx at h
 refine ⟨?_, ?_, ?_, ?_, ?_⟩ <;> (unfold World.cell?; rw [h]; rfl)
theorem Bx.new (w : World) (k n r : Int) (os az : Value) : Bx (w.alloc (tyB k n r os az)) w.heap.size k n r os az := World.alloc_heap_new w _
theorem Bx.keep {O : Nat → Prop} {w w' : World} {x : Nat} {k n r : Int} {os az : Value} (h : Bx w x k n r os az) (hc : Ch O w w') (hO : ¬ O x) : Bx w' x k n r os az := hc.keeps h hO
theorem GD.not_own {w : World} {b : Nat} {G : Gg} {d : Dg.D} (h : GD w b G d) : ¬ G.own b w.heap.size := fun e => Nat.lt_irrefl _ (h.gm.lt e)
theorem More.not {w : World} {O O' : Nat → Prop} (h : More w O O') {x : Nat} (hx : ¬ O x) (hl : x < w.heap.size) : ¬ O' x := fun e => by
 rcases h x e with e | e
 ·exact hx e
 ·omega
theorem Of_list {w0 : World} {b : Nat} {a : Ty.P} (ih : OfOK w0 b a) : OfOK w0 b (.list a) := by
 intro w G d os az h hr hp hi
 obtain ⟨⟨oa, oc, rfl⟩, g, o, c, os', az', rfl, hc1, he, hi'⟩ := hi
 simp only [Ty.P.parts] at hr
 have h1 := h.quiet (al_ch w (tyB 4 0 0 (.slice oa 0 oc) (.slice (some ⟨g, o, none⟩) 1 c)))
 have p1 := hp.al (tyB 4 0 0 (.slice oa 0 oc) (.slice (some ⟨g, o, none⟩) 1 c))
 have H1 := ih h1 (hr.le (by omega)) p1 hi'
 have hr1 := Dg.of_room a (N := 1) (hr.le (by omega))
 obtain ⟨e0, e1, e2, e3, e4⟩ := p1.el he
 have bx := hid (Bx.new w 4 0 0 (.slice oa 0 oc) (.slice (some ⟨g, o, none⟩) 1 c))
 have hno := hid h.not_own
 show Calls Try.prog 87 #[.pointer (some ⟨b, 0, none⟩), tyV 4 0 0 (.slice oa 0 oc) (.slice (some ⟨g, o, none⟩) 1 c)] w fun e w' => e = .returned (.int .i64 ((Dg.of a d).2.kind.length : Nat)) ∧ GS w b G w' ((Dg.of a d).2.put 4 (Dg.of a d).1 (-1) 0)
 clear h1 p1 he hi' hp ih
 replace h := hid h
 replace hr := hid hr
 replace hr1 := hid hr1
 go_enter Try.func87, Try.ntmps87
 go_upto_region 12 with (go_at_call 87; refine H1.mono ?_; clear H1; rintro e w1 ⟨rfl, G1, g1, c1, m1⟩; replace g1 := hid g1; replace c1 := hid c1; replace m1 := hid m1)
 clear e0 e1 e2 e3 e4
 have bx1 := hid (bx.out.keep c1.out hno.out)
 obtain ⟨b0, b1, b2, b3, b4⟩ := bx1.out.cells
 have HP := g1.out.Put hr1.out.small 4 (Dg.of a d).1 (-1) 0
 go_wp2_with (go_at_call 63; refine HP.mono ?_; clear HP; rintro e w2 ⟨rfl, h2⟩)
 go_ret
 exact ⟨rfl, (GS.after c1.out m1.out h2).al⟩
theorem Of_pair {w0 : World} {b : Nat} {a a' : Ty.P} (ih : OfOK w0 b a) (ih' : OfOK w0 b a') : OfOK w0 b (.pair a a') := by
 intro w G d os az h hr hp hi
 obtain ⟨⟨oa, oc, rfl⟩, g, o, c, os', az', os2, az2, rfl, hc1, he, hi', he2, hi2⟩ := hi
 simp only [Ty.P.parts] at hr
 have h1 := h.quiet (al_ch w (tyB 5 0 0 (.slice oa 0 oc) (.slice (some ⟨g, o, none⟩) 2 c)))
 have p1 := hp.al (tyB 5 0 0 (.slice oa 0 oc) (.slice (some ⟨g, o, none⟩) 2 c))
 have H1 := ih h1 (hr.le (by omega)) p1 hi'
 have hr1 := Dg.of_room a (N := 1 + 3 * a'.parts) (hr.le (by omega))
 have hr2 := Dg.of_room a' (N := 1) hr1
 obtain ⟨e0, e1, e2, e3, e4⟩ := p1.el he
 have bx := hid (Bx.new w 5 0 0 (.slice oa 0 oc) (.slice (some ⟨g, o, none⟩) 2 c))
 have hno := hid h.not_own
 show Calls Try.prog 87 #[.pointer (some ⟨b, 0, none⟩), tyV 5 0 0 (.slice oa 0 oc) (.slice (some ⟨g, o, none⟩) 2 c)] w fun e w' => e = .returned (.int .i64 ((Dg.of a' (Dg.of a d).2).2.kind.length : Nat)) ∧ GS w b G w' ((Dg.of a' (Dg.of a d).2).2.put 5 (Dg.of a d).1 (Dg.of a' (Dg.of a d).2).1 0)
 clear h1 he hi' hp ih
 replace h := hid h
 replace hr := hid hr
 replace hr1 := hid hr1
 replace hr2 := hid hr2
 replace p1 := hid p1
 replace ih' := @hid _ @ih'
 replace hi2 := hid hi2
 replace he2 := hid he2
 generalize hd1 : Dg.of a d = X at *
 go_enter Try.func87, Try.ntmps87
 go_upto_region 12 with (go_at_call 87; refine H1.mono ?_; clear H1; rintro e w1 ⟨rfl, G1, g1, c1, m1⟩; replace g1 := hid g1; replace c1 := hid c1; replace m1 := hid m1)
 clear e0 e1 e2 e3 e4
 have bx1 := hid (bx.out.keep c1.out hno.out)
 have hno1 := hid (m1.out.not hno.out (by simp))
 obtain ⟨b0, b1, b2, b3, b4⟩ := bx1.out.cells
 have p2 := p1.out.step c1.out m1.out
 obtain ⟨e0, e1, e2, e3, e4⟩ := p2.el he2.out
 have H2 := ih'.out g1.out (hr1.out.le (by omega)) p2 hi2.out
 clear p2
 go_upto_region 14 with (go_at_call 87; refine H2.mono ?_; clear H2; rintro e w2 ⟨rfl, G2, g2, c2, m2⟩; replace g2 := hid g2; replace c2 := hid c2; replace m2 := hid m2)
 clear e0 e1 e2 e3 e4 b0 b1 b2 b3 b4
 have bx2 := hid (bx1.out.keep c2.out hno1.out)
 obtain ⟨b0, b1, b2, b3, b4⟩ := bx2.out.cells
 have HP := g2.out.Put hr2.out.small 5 X.1 (Dg.of a' X.2).1 0
 go_wp2_with (go_at_call 63; refine HP.mono ?_; clear HP; rintro e w3 ⟨rfl, h3⟩)
 go_ret
 exact ⟨rfl, (GS.after c1.out m1.out (GS.after c2.out m2.out h3)).al⟩
end Go.Proofs.Ytejciampbnfbhaa

namespace Go.Proofs.Ytejciampbnfbhaa
open Go.RowKit
section
variable {ops : Array Oper} {rest : List Oper} {o : Oper} {a : Act} {w : World} {Q : Exit → Act → World → Prop}
theorem list_append_ov (hgd : o.guard = none) (s x : Operand) (hop : o.op = Op.call { callee := Callee.builtin Builtin.append, args := #[s, x], argTypes := #[46, 46] }) {v u : Value} {n : Nat} {xs : List Value} {l : List (List UInt8)} (hs : a.eval s = v) (hx : a.eval x = u) (hown : w.ownsRow 0 9 1 v n xs) (hu : OpsV w u l) (hn : n + l.length < 4000000000)
  (hK : ∀ v' w', w'.ownsRow 0 9 1 v' (n + l.length) (xs ++ strs l) → w.grownBy w' v.ownBlock → (v'.ownBlock = v.ownBlock ∨ v'.ownBlock = some w.heap.size) → wpList Try.prog ops Q rest (a.put o.dst v') w') :
  wpList Try.prog ops Q (o :: rest) a w :=
 wpList_plain hgd fun _ hK' => by
  obtain ⟨v', w', hr, h1, h2, h3⟩ := run_append_ov hown hu hn o.type
  unfold Oper.wp execOp
  simp only [hop, resolve, invoke, builtin, Sem.run_bind, Sem.run_pure, Result.andThen_ok, List.map_toArray, List.map_cons, List.map_nil, hs, hx, hr]
  exact hK' _ _ (hK v' w' h1 h2 h3)
end
theorem Fresh.empty (w : World) : Fresh w (w.alloc (.cells #[] 9)) (.slice (some ⟨w.heap.size, 0, none⟩) 0 0) [] :=
 ⟨⟨rfl, .inr ⟨w.heap.size, 0, #[], rfl, Nat.zero_le _, World.alloc_heap_new w _, Nat.le_refl _, Nat.zero_le _, rfl, rfl⟩⟩, al_ch w _, fun k hk => by
  have : w.heap.size = k := Option.some.inj hk
  omega⟩
theorem Past.ops {w0 w : World} {b : Nat} {G : Gg} (h : Past w0 w b G) {v : Value} {o : List (List UInt8)} (ho : OpsV w0 v o) (x : Obj) : OpsV (w.alloc x) v o := OpsV.carry ho (h.al x).same
theorem Of_fn {w0 : World} {b : Nat} {a a' : Ty.P} {ol : List (List UInt8)} {r : Nat} (ih : OfOK w0 b a) (ih' : OfOK w0 b a') : OfOK w0 b (.fn a a' ol r) := by
 intro w G d os az h hr hp hi
 obtain ⟨hov, g, o, c, os', az', os2, az2, rfl, hc1, he, hi', he2, hi2⟩ := hi
 obtain ⟨oa, oc, rfl, _⟩ := id hov
 simp only [Ty.P.parts] at hr
 have h1 := h.quiet (al_ch w (tyB 6 0 r (.slice oa ol.length oc) (.slice (some ⟨g, o, none⟩) 2 c)))
 have p1 := hp.al (tyB 6 0 r (.slice oa ol.length oc) (.slice (some ⟨g, o, none⟩) 2 c))
 have H1 := ih h1 (hr.le (by omega)) p1 hi'
 have hr1 := Dg.of_room a (N := 1 + 1 + 1 + 3 * a'.parts) (hr.le (by omega))
 have hr2 := Dg.of_room a' (N := 1 + 1 + 1) hr1
 obtain ⟨e0, e1, e2, e3, e4⟩ := p1.el he
 have bx := hid (Bx.new w 6 0 r (.slice oa ol.length oc) (.slice (some ⟨g, o, none⟩) 2 c))
 have hno := hid h.not_own
 have hol : ol.length < 4000000000 := by have := hr.r0; unfold Dg.big at this; omega
 replace hov := hid hov
 unfold Dg.of
 show Calls Try.prog 87 #[.pointer (some ⟨b, 0, none⟩), tyV 6 0 r (.slice oa ol.length oc) (.slice (some ⟨g, o, none⟩) 2 c)] w _
 clear h1 he hi' hp ih
 replace h := hid h
 replace hr := hid hr
 replace hr1 := hid hr1
 replace p1 := hid p1
 replace ih' := @hid _ @ih'
 replace hi2 := hid hi2
 replace he2 := hid he2
 replace hol := hid hol
 dsimp only
 generalize hd1 : Dg.of a d = X at *
 clear hd1
 generalize hd2 : Dg.of a' X.2 = Y at *
 have hd2' := hid hd2
 clear hd2
 replace hr2 := hid hr2
 go_enter Try.func87, Try.ntmps87
 go_upto_region 12 with (go_at_call 87; refine H1.mono ?_; clear H1; rintro e w1 ⟨rfl, G1, g1, c1, m1⟩; replace g1 := hid g1; replace c1 := hid c1; replace m1 := hid m1)
 clear e0 e1 e2 e3 e4
 have bx1 := hid (bx.out.keep c1.out hno.out)
 have hno1 := hid (m1.out.not hno.out (by simp))
 obtain ⟨b0, b1, b2, b3, b4⟩ := bx1.out.cells
 have p2 := p1.out.step c1.out m1.out
 obtain ⟨e0, e1, e2, e3, e4⟩ := p2.el he2.out
 have H2 := ih'.out g1.out (hr1.out.le (by omega)) p2 hi2.out
 rw [hd2'.out] at H2
 replace p2 := hid p2
 go_upto_region 14 with (go_at_call 87; refine H2.mono ?_; clear H2; rintro e w2 ⟨rfl, G2, g2, c2, m2⟩; replace g2 := hid g2; replace c2 := hid c2; replace m2 := hid m2)
 clear e0 e1 e2 e3 e4 b0 b1 b2 b3 b4
 have bx2 := hid (bx1.out.keep c2.out hno1.out)
 have hl1 : w.heap.size < w1.heap.size := (Array.getElem?_eq_some_iff.1 bx1.out).1
 have hno2 := hid (m2.out.not hno1.out hl1)
 have hl2 : w.heap.size < w2.heap.size := (Array.getElem?_eq_some_iff.1 bx2.out).1
 obtain ⟨b0, b1, b2, b3, b4⟩ := bx2.out.cells
 have p3 := hid (p2.out.step c2.out m2.out)
 have cc := hid (c1.out.two c2.out m1.out)
 have mm := hid (m1.out.two m2.out c1.out.size)
 clear p2 p1 c1 c2 m1 m2 bx bx1 hno hno1
 replace hl1 := hid hl1
 replace hl2 := hid hl2
 by_cases h0 : r = 0
 ·subst h0
  have ez : Hid (Dg.rowVar 0 Y.2 = (0, Y.2)) := hid rfl
  have hrz : Hid (Y.2.room (1 + 1)) := hid (hr2.out.le (by omega))
  go_upto_region 22 with (fail)
  clear b0 b1 b2 b3 b4
  obtain ⟨b0, b1, b2, b3, b4⟩ := (Bx.keep bx2.out (al_ch w2 (.cells #[] 9)) (fun h => h)).cells
  have hov2 := p3.out.ops hov.out (.cells #[] 9)
  have hF := Fresh.empty w2
  go_upto_region 23 with (first
   | (at_builtin; go_must (refine list_append_ov rfl (.tmp 87) (.tmp 89) rfl (l := ol) (xs := strs []) rfl rfl hF.1 hov2 (by simpa using hol.out) ?_); intro v' w5 hrow1 hgrow hblk; have hF5 := hF.more hrow1 hgrow hblk; clear hrow1 hgrow hblk hF hov2)
   | (go_at_call 35; refine (((g2.out.quiet hF5.2.1).PutRow hr2.out.small hF5.sv (hF5.apart g2.out.gm) 0)).mono ?_; rintro e w6 ⟨rfl, G6, g6, c6, m6⟩; replace g6 := hid g6; replace c6 := hid c6; replace m6 := hid m6; replace hF5 := hid hF5))
  obtain ⟨b0, b1, b2, b3, b4⟩ := ((bx2.out.keep hF5.out.2.1 (fun h => h)).keep c6.out hno2.out).cells
  have HP := g6.out.Put (hrz.out.putRow ol 0).small 6 X.1 Y.1 (Y.2.ops.length : Nat)
  go_wp2_with (go_at_call 63; refine HP.mono ?_; clear HP; rintro e w7 ⟨rfl, h7⟩)
  go_ret
  rw [ez.out]
  exact ⟨rfl, (GS.after cc.out mm.out (GS.after (hF5.out.2.1.mono (fun _ h => h.elim)) (fun _ h => .inl h) (GS.after c6.out m6.out h7))).al⟩
 ·have r0 : (0 : Int) < (r : Int) := by omega
  have mr := g2.out.gm.mr
  rw [g2.out.rv] at mr
  have hlk := fun q => run_lookOk (mr.keep (w' := w2.drewN q) rfl) (r : Int)
  have hb := g2.out.gm.cells.2.2.2.2.2.2.2.2
  cases hx : Y.2.rv.lookup (r : Int) with
  | some k =>
   have ez : Hid (Dg.rowVar r Y.2 = (k, Y.2)) := hid (by unfold Dg.rowVar; rw [if_neg h0, hx]); have hrz : Hid (Y.2.room (1 + 1)) := hid (hr2.out.le (by omega)); simp only [hx, Option.getD_some, Option.isSome_some] at hlk; clear mr hx; replace h0 := hid h0
   go_upto_region 17 with (fail)
   go_quiet (fail)
   clear b0 b1 b2 b3 b4 hb hlk; obtain ⟨W, hW⟩ : ∃ W, W = w2.drewN nq := ⟨_, rfl⟩; rw [← hW]; have cW : Ch (fun _ => False) w2 W := by rw [hW]; exact (Ch.refl _ _).dn _
   clear hW; have g3 := hid (g2.out.quiet cW); have bx3 := hid (bx2.out.keep cW (fun h => h)); have p4 := hid (p3.out.step (cW.mono (fun _ h => h.elim)) (fun _ h => .inl h)); have cc3 := hid (cc.out.trans (cW.mono (fun _ h => h.elim)) (fun _ h => .inl h)); obtain ⟨b0, b1, b2, b3, b4⟩ := bx3.out.cells; replace cW := hid cW
   go_upto_region 22 with (fail)
   clear b0 b1 b2 b3 b4; obtain ⟨b0, b1, b2, b3, b4⟩ := (Bx.keep bx3.out (al_ch W (.cells #[] 9)) (fun h => h)).cells; have hov2 := p4.out.ops hov.out (.cells #[] 9); have hF := Fresh.empty W
   go_upto_region 23 with (first
    | (at_builtin; go_must (refine list_append_ov rfl (.tmp 87) (.tmp 89) rfl (l := ol) (xs := strs []) rfl rfl hF.1 hov2 (by simpa using hol.out) ?_); intro v' w5 hrow1 hgrow hblk; have hF5 := hF.more hrow1 hgrow hblk; clear hrow1 hgrow hblk hF hov2)
    | (go_at_call 35; refine (((g3.out.quiet hF5.2.1).PutRow hr2.out.small hF5.sv (hF5.apart g3.out.gm) k)).mono ?_; rintro e w6 ⟨rfl, G6, g6, c6, m6⟩; replace g6 := hid g6; replace c6 := hid c6; replace m6 := hid m6; replace hF5 := hid hF5))
   obtain ⟨b0, b1, b2, b3, b4⟩ := ((bx3.out.keep hF5.out.2.1 (fun h => h)).keep c6.out hno2.out).cells; have HP := g6.out.Put (hrz.out.putRow ol k).small 6 X.1 Y.1 (Y.2.ops.length : Nat)
   go_wp2_with (go_at_call 63; refine HP.mono ?_; clear HP; rintro e w7 ⟨rfl, h7⟩)
   go_ret
   rw [ez.out]; exact ⟨rfl, (GS.after cc3.out mm.out (GS.after (hF5.out.2.1.mono (fun _ h => h.elim)) (fun _ h => .inl h) (GS.after c6.out m6.out h7))).al⟩
  | none =>
   have ez : Hid (Dg.rowVar r Y.2 = ((Y.2.ops.length : Int), { Y.2.putRow [] (-1) with rv := Dg.mput (r : Int) (Y.2.ops.length : Int) Y.2.rv })) := hid (by unfold Dg.rowVar; rw [if_neg h0, hx]); have hrz : Hid (Dg.D.room { Y.2.putRow [] (-1) with rv := Dg.mput (r : Int) (Y.2.ops.length : Int) Y.2.rv } (1 + 1)) := hid ((hr2.out.putRow [] (-1)).rv _); simp only [hx, Option.getD_none, Option.isSome_none] at hlk
   have HO : Hid (∀ q, Calls Try.prog 50 #[.pointer (some ⟨b, 0, none⟩)] (w2.drewN q) fun e w' => e = .returned (.int .i64 (Y.2.ops.length : Nat)) ∧ GS w2 b G2 w' (Y.2.putRow [] (-1))) := hid fun q => ((g2.out.quiet ((Ch.refl _ _).dn q)).Open hr2.out.small).mono (by
    rintro e w' ⟨rfl, g⟩
    exact ⟨rfl, GS.after ((Ch.refl _ _).dn q) (fun _ h => .inl h) g⟩)
   clear mr hx; replace h0 := hid h0
   go_upto_region 17 with (fail)
   go_quiet (fail)
   go_upto_region 20 with (go_at_call 50; refine (HO.out _).mono ?_; clear HO; rintro e w3 ⟨rfl, G3, g3, c3, m3⟩; replace g3 := hid g3; replace c3 := hid c3; replace m3 := hid m3)
   clear b0 b1 b2 b3 b4 hb hlk; have bx3 := hid (bx2.out.keep c3.out hno2.out); have hno3 := hid (m3.out.not hno2.out hl2.out); have hl3 := hid ((Array.getElem?_eq_some_iff.1 bx3.out).1); have p4 := hid (p3.out.step c3.out m3.out); have cc3 := hid (cc.out.two c3.out mm.out); have mm3 := hid (mm.out.two m3.out cc.out.size); obtain ⟨b0, b1, b2, b3, b4⟩ := bx3.out.cells; have hb3 := g3.out.gm.cells.2.2.2.2.2.2.2.2
   have HU : Hid (∀ q, ∃ w4, (Instr.mapUpdate 77 (.map (some G3.r)) (.int .i64 r) (.int .i64 (Y.2.ops.length : Nat))).run Try.prog (w3.drewN q) = .ok () w4 ∧ GS w3 b G3 w4 { Y.2.putRow [] (-1) with rv := Dg.mput (r : Int) (Y.2.ops.length : Nat) Y.2.rv }) := hid fun q => by
    obtain ⟨w4, h4, g4⟩ := (g3.out.quiet ((Ch.refl _ _).dn q)).updR (r : Int) (Y.2.ops.length : Nat); exact ⟨w4, h4, GS.after ((Ch.refl _ _).dn q) (fun _ h => .inl h) g4⟩
   refine wp_region_split 7 1 (by kernel_rfl) rfl (by kernel_rfl) (by kernel_rfl) (by kernel_rfl) ?_; simp only [List.take_succ_cons, List.take_zero]
   repeat (gi_big_quiet_step (fail))
   refine wpQuietIn_nil ?_; intro _ hw'; obtain ⟨nq1, hw''⟩ := hw'; subst hw''; obtain ⟨w4, h4, G4, g4, c4, m4⟩ := HU.out nq1; clear HU; replace g4 := hid g4; replace c4 := hid c4; replace m4 := hid m4; refine wpAnyIn_ready (rs := [7]) (by kernel_rfl) (by simp) (AllReadyIn.cons rfl (fun K hK => ?_) AllReadyIn.nil)
   go_simp
   refine hK _ _ ?_; clear hK K; refine wpAnyIn_done (by kernel_rfl) ?_ _; clear b0 b1 b2 b3 b4 hb3 h4; have bx4 := hid (bx3.out.keep c4.out hno3.out); have hno4 := hid (m4.out.not hno3.out hl3.out); have p5 := hid (p4.out.step c4.out m4.out); have cc4 := hid (cc3.out.two c4.out mm3.out); have mm4 := hid (mm3.out.two m4.out cc3.out.size); obtain ⟨b0, b1, b2, b3, b4⟩ := bx4.out.cells
   go_upto_region 22 with (fail)
   clear b0 b1 b2 b3 b4; obtain ⟨b0, b1, b2, b3, b4⟩ := (Bx.keep bx4.out (al_ch w4 (.cells #[] 9)) (fun h => h)).cells; have hov2 := p5.out.ops hov.out (.cells #[] 9); have hF := Fresh.empty w4
   go_upto_region 23 with (first
    | (at_builtin; go_must (refine list_append_ov rfl (.tmp 87) (.tmp 89) rfl (l := ol) (xs := strs []) rfl rfl hF.1 hov2 (by simpa using hol.out) ?_); intro v' w5 hrow1 hgrow hblk; have hF5 := hF.more hrow1 hgrow hblk; clear hrow1 hgrow hblk hF hov2)
    | (go_at_call 35; refine (((g4.out.quiet hF5.2.1).PutRow hrz.out.small hF5.sv (hF5.apart g4.out.gm) (Y.2.ops.length : Int))).mono ?_; rintro e w6 ⟨rfl, G6, g6, c6, m6⟩; replace g6 := hid g6; replace c6 := hid c6; replace m6 := hid m6; replace hF5 := hid hF5))
   obtain ⟨b0, b1, b2, b3, b4⟩ := ((bx4.out.keep hF5.out.2.1 (fun h => h)).keep c6.out hno4.out).cells; have HP := g6.out.Put (hrz.out.putRow ol (Y.2.ops.length : Int)).small 6 X.1 Y.1 ((Y.2.putRow [] (-1)).ops.length : Nat)
   go_wp2_with (go_at_call 63; refine HP.mono ?_; clear HP; rintro e w7 ⟨rfl, h7⟩)
   go_ret
   rw [ez.out]; exact ⟨rfl, (GS.after cc4.out mm4.out (GS.after (hF5.out.2.1.mono (fun _ h => h.elim)) (fun _ h => .inl h) (GS.after c6.out m6.out h7))).al⟩
theorem Of_any (w0 : World) (b : Nat) : ∀ (t : Ty.P), OfOK w0 b t
 | .var n => fun h hr _ hi => Of_var h hr.small hi.1 hi.2
 | .int => fun h hr _ hi => Of_leaf 1 (by decide) (by decide) h hr.small hi.1 hi.2
 | .bool => fun h hr _ hi => Of_leaf 2 (by decide) (by decide) h hr.small hi.1 hi.2
 | .unit => fun h hr _ hi => Of_leaf 3 (by decide) (by decide) h hr.small hi.1 hi.2
 | .list a => Of_list (Of_any w0 b a)
 | .pair a a' => Of_pair (Of_any w0 b a) (Of_any w0 b a')
 | .fn a a' _ _ => Of_fn (Of_any w0 b a) (Of_any w0 b a')
end Go.Proofs.Ytejciampbnfbhaa

namespace Go.Proofs.Ytejciampbnfbhaa
open Go.RowKit
namespace Dg
abbrev NM := List (Int × Int) × List (Int × Int)
def rowNum (v : Int) (m : List (Int × Int)) : Option (Nat × List (Int × Int)) := if 0 < v then (if 0 ≤ (number m v).1 ∧ m.length < big then some ((number m v).1.toNat, (number m v).2) else none) else some (0, m)
def told (f : Nat) : Nat → D → Int → NM → Option (Ty.P × NM)
 | 0, _, _, _ => none
 | k + 1, d, n, N => (find f d.link n).bind fun n => (at? d.kind n).bind fun kd =>
  if kd = 0 then (if 0 ≤ (number N.1 n).1 ∧ N.1.length < big then some (.var (number N.1 n).1.toNat, ((number N.1 n).2, N.2)) else none) else
  (at? d.a n).bind fun a => (at? d.b n).bind fun b =>
  if kd = 1 ∧ a < 0 ∧ b < 0 then some (.int, N) else
  if kd = 2 ∧ a < 0 ∧ b < 0 then some (.bool, N) else
  if kd = 3 ∧ a < 0 ∧ b < 0 then some (.unit, N) else
  if kd = 4 ∧ 0 ≤ a ∧ b < 0 then (told f k d a N).bind fun x => some (.list x.1, x.2) else
  if kd = 5 ∧ 0 ≤ a ∧ 0 ≤ b then (told f k d a N).bind fun x => (told f k d b x.2).bind fun y => some (.pair x.1 y.1, y.2) else
  if kd = 6 ∧ 0 ≤ a ∧ 0 ≤ b then (told f k d a N).bind fun x => (at? d.row n).bind fun r => (whole f d r []).bind fun p => (rowNum p.2 x.2.2).bind fun q => (told f k d b (x.2.1, q.2)).bind fun y => some (.fn x.1 y.1 p.1 q.1, y.2) else none
end Dg
abbrev tyC (k n r : Int) (os az : Value) : List Value := [.int .i64 k, .int .i64 n, .int .i64 r, os, az]
def isSl (v : Value) : Prop := ∃ a n c, v = .slice a n c
theorem Try.infoType : (Try.prog.info? 49).map (fun i => (i.zero, i.size, i.bytes)) = some (some (.agg #[.int .i64 0, .int .i64 0, .int .i64 0, .slice none 0 0, .slice none 0 0]), 5, 72) := by kernel_rfl
theorem run_append_ty {w : World} {v : Value} {n : Nat} {xs : List Value} (hown : w.ownsRow 0 49 5 v n xs) {x : Nat} {k m r : Int} {os az : Value} (hx : w.heap[x]? = some (.cells #[.int .i64 k, .int .i64 m, .int .i64 r, os, az] 49 (0, 0))) (ho : isSl os) (ha : isSl az) (hn : n < 1000) (ty : TypeId) :
  ∃ v' w', (Builtin.append_ #[47, 47] ty #[v, .slice (some ⟨x, 0, none⟩) 1 1]).run Try.prog w = .ok v' w' ∧ w'.ownsRow 0 49 5 v' (n + 1) (xs ++ tyC k m r os az) ∧ w.grownBy w' v.ownBlock ∧ (v'.ownBlock = v.ownBlock ∨ v'.ownBlock = some w.heap.size) := by
 obtain ⟨i, hi, hzz⟩ := Option.map_eq_some_iff.1 Try.infoType
 simp only [Prod.mk.injEq] at hzz
 obtain ⟨hz, hs, hb⟩ := hzz
 obtain ⟨oa, on, oc, rfl⟩ := ho
 obtain ⟨aa, an, ac, rfl⟩ := ha
 obtain ⟨v', w', hr, h4, h5, h6, h7⟩ := run_append_own_at (P := Try.prog) w 0 47 ty 49 i _ 5 72 Try.underlying47 hi hz hs hb rfl (by decide) v n xs hown ⟨x, 0, none⟩ 1 1 (tyC k m r (.slice oa on oc) (.slice aa an ac)) rfl (fun j u hj => by
  rw [at_plain]
  unfold World.cell?
  rw [hx]
  have : j = 0 ∨ j = 1 ∨ j = 2 ∨ j = 3 ∨ j = 4 := by
   have := (List.getElem?_eq_some_iff.1 hj).1
   simp at this
   omega
  rcases this with rfl | rfl | rfl | rfl | rfl <;> (simp at hj; subst hj; rfl)) (fun u hu => by
  simp at hu
  rcases hu with rfl | rfl | rfl | rfl | rfl <;> rfl) (by unfold maxLen; omega) (by omega) (Nat.zero_le _)
 exact ⟨v', w', hr, h4, h5, h7⟩
structure Rb (n : Nat) (w : World) (t : Ty.P) (os az : Value) : Prop where
 so : isSl os
 sa : isSl az
 is : ∀ w' : World, (∀ k, n ≤ k → k < w.heap.size → w'.heap[k]? = w.heap[k]?) → IsT w' t os az
theorem Rb.keep {n : Nat} {w w' : World} {t : Ty.P} {os az : Value} (h : Rb n w t os az) (hs : ∀ k, n ≤ k → k < w.heap.size → w'.heap[k]? = w.heap[k]?) (hz : w.heap.size ≤ w'.heap.size) : Rb n w' t os az :=
 ⟨h.so, h.sa, fun w2 h2 => h.is w2 fun k h3 h4 => (h2 k h3 (Nat.lt_of_lt_of_le h4 hz)).trans (hs k h3 h4)⟩
theorem Rb.le {n m : Nat} {w : World} {t : Ty.P} {os az : Value} (h : Rb n w t os az) (hm : m ≤ n) : Rb m w t os az := ⟨h.so, h.sa, fun w2 h2 => h.is w2 fun k h3 h4 => h2 k (Nat.le_trans hm h3) h4⟩
theorem Rb.ch {n : Nat} {w w' : World} {O : Nat → Prop} {t : Ty.P} {os az : Value} (h : Rb n w t os az) (hc : Ch O w w') (hO : ∀ k, n ≤ k → k < w.heap.size → ¬ O k) : Rb n w' t os az := h.keep (fun k h1 h2 => hc.same k h2 (hO k h1 h2)) hc.size
theorem nul_sl {v : Value} (h : Nul v) : isSl v := by obtain ⟨a, c, rfl⟩ := h; exact ⟨_, _, _, rfl⟩
structure TyRow (n : Nat) (w : World) (v : Value) (m : Nat) (xs : List Value) : Prop where
 own : w.ownsRow 0 49 5 v m xs
 blk : ∀ k, v.ownBlock = some k → n ≤ k
theorem TyRow.nil (n : Nat) (w : World) : TyRow n w (.slice none 0 0) 0 [] := ⟨World.ownsRow_nil _ _ _ _, fun k hk => by cases hk⟩
theorem TyRow.ch {n : Nat} {w w' : World} {O : Nat → Prop} {v : Value} {m : Nat} {xs : List Value} (h : TyRow n w v m xs) (hc : Ch O w w') (hO : ∀ k, v.ownBlock = some k → ¬ O k) : TyRow n w' v m xs :=
 ⟨ownsRow_keep h.own (fun k hk => hc.same k (ownsRow_lt h.own hk) (hO k hk)), h.blk⟩
theorem TyRow.sl {n : Nat} {w : World} {v : Value} {m : Nat} {xs : List Value} (h : TyRow n w v m xs) : isSl v := by
 obtain ⟨a, c, e, _⟩ := row_slice h.own
 exact ⟨_, _, _, e⟩
theorem TyRow.cells {n : Nat} {w w' : World} {v : Value} {m : Nat} {xs : List Value} (h : TyRow n w v (m + 1) xs) (hs : ∀ k, n ≤ k → k < w.heap.size → w'.heap[k]? = w.heap[k]?) : ∃ g c, v = .slice (some ⟨g, 0, none⟩) (m + 1) c ∧ m + 1 ≤ c ∧ ∀ j u, xs[j]? = some u → w'.cell? ⟨g, j, none⟩ = some u := by
 have hown := h.own
 obtain ⟨g, c, rfl⟩ := ownsRow_succ hown
 have hg : n ≤ g := h.blk g rfl
 have hown' := ownsRow_keep (w' := w') hown (fun k hk => by
  have : g = k := Option.some.inj hk
  subst this
  exact hs g hg (ownsRow_lt hown rfl))
 obtain ⟨a, c', e, _, hc⟩ := row_slice hown
 simp only [Value.slice.injEq, true_and] at e
 obtain ⟨_, rfl⟩ := e
 exact ⟨g, c, rfl, hc, fun j u hj => row_cell hown' j u hj⟩
theorem Rb.leaf {n : Nat} {w : World} {t : Ty.P} {os az : Value} (ht : t.kind ≤ 3) (ho : Nul os) (ha : Nul az) : Rb n w t os az :=
 ⟨nul_sl ho, nul_sl ha, fun w' _ => by cases t <;> first | exact ⟨ho, ha⟩ | (simp [Ty.P.kind] at ht)⟩
theorem Rb.list {n : Nat} {w : World} {t : Ty.P} {os az os' az' : Value} (ho : Nul os) (h : Rb n w t os' az') (hr : TyRow n w az 1 (tyC t.kind t.num t.row os' az')) : Rb n w (.list t) os az :=
 ⟨nul_sl ho, hr.sl, fun w' hs => by
  obtain ⟨g, c, rfl, hc, hx⟩ := hr.cells hs
  exact ⟨ho, g, 0, c, os', az', rfl, hc, ⟨hx 0 _ rfl, hx 1 _ rfl, hx 2 _ rfl, hx 3 _ rfl, hx 4 _ rfl⟩, h.is w' hs⟩⟩
theorem Rb.pair {n : Nat} {w : World} {t t2 : Ty.P} {os az os' az' os2 az2 : Value} (ho : Nul os) (h : Rb n w t os' az') (h2 : Rb n w t2 os2 az2) (hr : TyRow n w az 2 (tyC t.kind t.num t.row os' az' ++ tyC t2.kind t2.num t2.row os2 az2)) : Rb n w (.pair t t2) os az :=
 ⟨nul_sl ho, hr.sl, fun w' hs => by
  obtain ⟨g, c, rfl, hc, hx⟩ := hr.cells hs
  exact ⟨ho, g, 0, c, os', az', os2, az2, rfl, hc, ⟨hx 0 _ rfl, hx 1 _ rfl, hx 2 _ rfl, hx 3 _ rfl, hx 4 _ rfl⟩, h.is w' hs, ⟨hx 5 _ rfl, hx 6 _ rfl, hx 7 _ rfl, hx 8 _ rfl, hx 9 _ rfl⟩, h2.is w' hs⟩⟩
theorem Rb.fn {n : Nat} {w : World} {t t2 : Ty.P} {os az os' az' os2 az2 : Value} {l : List (List UInt8)} {r : Nat} (ho : w.ownsRow 0 9 1 os l.length (strs l)) (hb : ∀ k, os.ownBlock = some k → n ≤ k) (h : Rb n w t os' az') (h2 : Rb n w t2 os2 az2) (hr : TyRow n w az 2 (tyC t.kind t.num t.row os' az' ++ tyC t2.kind t2.num t2.row os2 az2)) : Rb n w (.fn t t2 l r) os az :=
 ⟨by obtain ⟨a, c, e, _⟩ := row_slice ho; exact ⟨_, _, _, e⟩, hr.sl, fun w' hs => by
  obtain ⟨g, c, rfl, hc, hx⟩ := hr.cells hs
  refine ⟨?_, g, 0, c, os', az', os2, az2, rfl, hc, ⟨hx 0 _ rfl, hx 1 _ rfl, hx 2 _ rfl, hx 3 _ rfl, hx 4 _ rfl⟩, h.is w' hs, ⟨hx 5 _ rfl, hx 6 _ rfl, hx 7 _ rfl, hx 8 _ rfl, hx 9 _ rfl⟩, h2.is w' hs⟩
  have ho' := ownsRow_keep (w' := w') ho (fun k hk => hs k (hb k hk) (ownsRow_lt ho hk))
  obtain ⟨a, c2, e, ha, hc2⟩ := row_slice ho'
  refine ⟨a, c2, e, hc2, fun hl => ?_⟩
  rcases ha with ha | ⟨g2, rfl⟩
  ·exact absurd (List.length_eq_zero_iff.1 ha) hl
  ·refine ⟨g2, 0, rfl, fun i hi => ?_⟩
   rw [e] at ho'; rw [Nat.zero_add]
   exact row_cell ho' i _ (by simp [strs, hi])⟩
end Go.Proofs.Ytejciampbnfbhaa
