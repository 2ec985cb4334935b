/-
  Decode's state in memory: the Reader, the code that is made, its rows; who owns which blocks.
-/
import Derived.Test.YticmoofjjikefaaDoorOa
import Derived.Test.YticmoofjjikefaaDoorCh
import Derived.Test.YticmoofjjikefaaDoorCj
set_option linter.unusedVariables false
set_option linter.unusedSimpArgs false
namespace Go.Proofs.YticmoofjjikefaaDoor
open Go.RowKit

def opC (o : Cd.Op) : List Value := [.string ⟨o.name.toArray⟩, .bool o.once]
def hanC (x : Value × Cd.Han) : List Value := [.bool x.2.shallow, x.1]
def funC (x : Value × Cd.Fun) : List Value := [.int .i64 x.2.free, .int .i64 x.2.slots, x.1]
def insC (x : Cd.Ins) : List Value := [.int .i64 x.op, .int .i64 x.a, .int .i64 x.b, .int .i64 x.n]
structure Dg where
  b : Nat
  cb : Nat
  t2 : Nat
  t3 : Nat
  r : Cd.Rd
  sh : List UInt8
  vo : Value
  vh : Value
  vf : Value
  os : List Cd.Op
  hs : List (Value × Cd.Han)
  fs : List (Value × Cd.Fun)
  D : Nat → Prop
  X : Nat → Prop
  Y : Nat → Prop
def Dg.O (g : Dg) : Nat → Nat → Prop
  | 0 => fun k => k = g.b
  | 1 => fun k => k = g.cb
  | 2 => fun k => g.vo.ownBlock = some k
  | 3 => fun k => g.vh.ownBlock = some k
  | 4 => fun k => g.vf.ownBlock = some k
  | 5 => g.D
  | 6 => g.X
  | 7 => g.Y
  | 8 => fun k => k = g.t2
  | 9 => fun k => k = g.t3
  | _ => fun _ => False
structure Dm (w0 : World) (s : List UInt8) (g : Dg) (w : World) : Prop where
  own : Own w0 g.O w
  rd : RdM w g.b s g.r
  pos : g.r.pos ≤ 4000003
  c : w.heap[g.cb]? = some (.cells #[.string ⟨g.sh.toArray⟩, g.vo, g.vh, g.vf] 26 (0, 0))
  ro : w.ownsRow 0 56 2 g.vo g.os.length (g.os.flatMap opC)
  rh : w.ownsRow 0 59 2 g.vh g.hs.length (g.hs.flatMap hanC)
  rf : w.ownsRow 0 62 3 g.vf g.fs.length (g.fs.flatMap funC)
  hd : ∀ x ∈ g.hs, w.ownsRow 0 3 1 x.1 x.2.ops.length (x.2.ops.map (Value.int .i64)) ∧ ∀ k, x.1.ownBlock = some k → g.D k
  fd : ∀ x ∈ g.fs, w.ownsRow 0 64 4 x.1 x.2.ins.length (x.2.ins.flatMap insC) ∧ ∀ k, x.1.ownBlock = some k → g.D k
  c2 : w.heap[g.t2]? = some (.cells #[.string ⟨#[]⟩, .slice none 0 0, .slice none 0 0, .slice none 0 0] 26 (0, 0))
  c3 : w.heap[g.t3]? = some (.cells #[.int .i64 0, .int .i64 0] 29 (0, 0))

/-- What was not turned stands: all owners but i. -/
structure Rest (g : Dg) (i : Nat) (w w' : World) : Prop where
  s : ∀ j, j ≠ i → ∀ k, g.O j k → w'.heap[k]? = w.heap[k]?
theorem Dm.rest {w0 w w' : World} {s : List UInt8} {g : Dg} (h : Dm w0 s g w) (i : Nat) (hc : Ch (g.O i) w w') : Rest g i w w' := ⟨fun _ hj => h.own.same hj hc⟩
theorem Dm.quiet {w0 w w' : World} {s : List UInt8} {g : Dg} (h : Dm w0 s g w) (hc : Ch (fun _ => False) w w') : Dm w0 s g w' := by
  have hs : ∀ j k, g.O j k → w'.heap[k]? = w.heap[k]? := fun j k hk => hc.same k (h.own.lt j k hk) (fun e => e)
  exact ⟨h.own.quiet hc, (hs 0 _ rfl).trans h.rd, h.pos, (hs 1 _ rfl).trans h.c, ownsRow_keep h.ro (hs 2), ownsRow_keep h.rh (hs 3), ownsRow_keep h.rf (hs 4),
    fun x hx => ⟨ownsRow_keep (h.hd x hx).1 (fun k hk => hs 5 k ((h.hd x hx).2 k hk)), (h.hd x hx).2⟩, fun x hx => ⟨ownsRow_keep (h.fd x hx).1 (fun k hk => hs 5 k ((h.fd x hx).2 k hk)), (h.fd x hx).2⟩, (hs 8 _ rfl).trans h.c2, (hs 9 _ rfl).trans h.c3⟩
/-- The Reader has read. -/
theorem Dm.read {w0 w w' : World} {s : List UInt8} {g : Dg} (h : Dm w0 s g w) {r' : Cd.Rd} (hr : RdM w' g.b s r') (hp : r'.pos ≤ 4000003) (hc : Ch (fun k => k = g.b) w w') : Dm w0 s { g with r := r' } w' := by
  have hR := h.rest 0 hc
  refine ⟨(h.own.step 0 hc (fun k hk => .inl hk) (fun k hk => Nat.lt_of_lt_of_le (h.own.lt 0 k hk) hc.size)).as (fun i k hk => ?_), hr, hp, (hR.s 1 (by omega) _ rfl).trans h.c, ownsRow_keep h.ro (hR.s 2 (by omega)), ownsRow_keep h.rh (hR.s 3 (by omega)), ownsRow_keep h.rf (hR.s 4 (by omega)),
    fun x hx => ⟨ownsRow_keep (h.hd x hx).1 (fun k hk => hR.s 5 (by omega) k ((h.hd x hx).2 k hk)), (h.hd x hx).2⟩, fun x hx => ⟨ownsRow_keep (h.fd x hx).1 (fun k hk => hR.s 5 (by omega) k ((h.fd x hx).2 k hk)), (h.fd x hx).2⟩, (hR.s 8 (by omega) _ rfl).trans h.c2, (hR.s 9 (by omega) _ rfl).trans h.c3⟩
  by_cases e : i = 0
  · subst e; rw [upd_same]; exact hk
  · rw [upd_other _ _ e]
    have : Dg.O { g with r := r' } i = Dg.O g i := by unfold Dg.O; split <;> rfl
    rw [this] at hk
    exact hk
/-- An owner that stands aside (6 to 9) turns its blocks, or has others. -/
theorem Dm.aside {w0 w w' : World} {s : List UInt8} {g g' : Dg} (h : Dm w0 s g w) (i : Nat) (hi : i = 6 ∨ i = 7) {Z : Nat → Prop} (hc : Ch (g.O i) w w') (hm : More w (g.O i) Z) (hZ : ∀ k, Z k → k < w'.heap.size) (hg : g' = if i = 6 then { g with X := Z } else { g with Y := Z }) : Dm w0 s g' w' := by
  have hR := h.rest i hc
  have hO : ∀ j k, g'.O j k → upd g.O i Z j k := fun j k hk => by
    by_cases e : j = i
    · subst e
      rw [upd_same]
      rcases hi with rfl | rfl
      · rw [hg] at hk; exact hk
      · rw [hg] at hk; exact hk
    · rw [upd_other _ _ e]
      rcases hi with rfl | rfl
      · rw [hg] at hk
        unfold Dg.O at hk ⊢
        split at hk <;> first | exact hk | exact absurd rfl e
      · rw [hg] at hk
        unfold Dg.O at hk ⊢
        split at hk <;> first | exact hk | exact absurd rfl e
  have hown := (h.own.step i hc hm hZ).as hO
  have n0 : (0 : Nat) ≠ i := by omega
  have n1 : (1 : Nat) ≠ i := by omega
  have n2 : (2 : Nat) ≠ i := by omega
  have n3 : (3 : Nat) ≠ i := by omega
  have n4 : (4 : Nat) ≠ i := by omega
  have n5 : (5 : Nat) ≠ i := by omega
  have n8 : (8 : Nat) ≠ i := by omega
  have n9 : (9 : Nat) ≠ i := by omega
  have key : Dm w0 s { g with X := g'.X, Y := g'.Y } w' := by
    refine ⟨?_, (hR.s 0 n0 _ rfl).trans h.rd, h.pos, (hR.s 1 n1 _ rfl).trans h.c, ownsRow_keep h.ro (hR.s 2 n2), ownsRow_keep h.rh (hR.s 3 n3), ownsRow_keep h.rf (hR.s 4 n4),
      fun x hx => ⟨ownsRow_keep (h.hd x hx).1 (fun k hk => hR.s 5 n5 k ((h.hd x hx).2 k hk)), (h.hd x hx).2⟩, fun x hx => ⟨ownsRow_keep (h.fd x hx).1 (fun k hk => hR.s 5 n5 k ((h.fd x hx).2 k hk)), (h.fd x hx).2⟩, (hR.s 8 n8 _ rfl).trans h.c2, (hR.s 9 n9 _ rfl).trans h.c3⟩
    rcases hi with rfl | rfl
    · rw [hg] at hown ⊢; exact hown
    · rw [hg] at hown ⊢; exact hown
  rcases hi with rfl | rfl
  · rw [hg] at key ⊢; exact key
  · rw [hg] at key ⊢; exact key
theorem grown_ch {w w' : World} {b : Nat} (h : w.grownBy w' (some b)) : Ch (fun k => k = b) w w' := Ch.grown h (fun k hk => (Option.some.inj hk).symm)

section
variable {w0 w : World} {s : List UInt8} {g : Dg}
theorem Dm.num (h : Dm w0 s g w) (hs : s.length ≤ 4000000) (n : Nat) (hn : n ≤ 8) :
    Calls Tryd.prog 13 #[ptrV g.b, .int .i64 n] w fun e w' => e = .returned (.int .i64 (Cd.sgn (g.r.num s n).1)) ∧ Dm w0 s { g with r := (g.r.num s n).2 } w' ∧ Ch (fun k => k = g.b) w w' := by
  refine (num_any w g.b s g.r n h.rd hs h.pos hn).mono ?_
  rintro e w' ⟨rfl, h1, h2⟩
  exact ⟨rfl, h.read h1 (num_posle hs h.pos) (grown_ch h2), grown_ch h2⟩
theorem no_pos (r : Cd.Rd) (k a : Nat) : (r.no k a).pos = r.pos := by unfold Cd.Rd.no; split <;> rfl
theorem text_posle {n : Nat} {r : Cd.Rd} (hs : s.length ≤ 4000000) (hp : r.pos ≤ 4000003) : (r.text s n).2.pos ≤ 4000003 := by
  unfold Cd.Rd.text
  split
  · rename_i hh
    have := hh.2
    show r.pos + n ≤ 4000003
    omega
  · show (r.no 13 s.length).pos ≤ 4000003
    rw [no_pos]; exact hp
theorem flag_posle {r : Cd.Rd} (hs : s.length ≤ 4000000) (hp : r.pos ≤ 4000003) : (r.flag s).2.pos ≤ 4000003 := by
  have := num_posle (n := 1) hs hp
  unfold Cd.Rd.flag
  split
  · show ((r.num s 1).2.no _ _).pos ≤ _
    rw [no_pos]; exact this
  · exact this
theorem ins_posle {r : Cd.Rd} (hs : s.length ≤ 4000000) (hp : r.pos ≤ 4000003) : (r.ins s).2.pos ≤ 4000003 := by
  have h1 := num_posle (n := 1) hs hp
  unfold Cd.Rd.ins
  dsimp only
  split
  · show ((r.num s 1).2.no _ _).pos ≤ _
    rw [no_pos]; exact h1
  · split
    · exact num_posle hs h1
    · split
      · exact num_posle hs h1
      · split
        · exact num_posle hs (num_posle hs h1)
        · exact h1
theorem Dm.text (h : Dm w0 s g w) (hs : s.length ≤ 4000000) (n : Nat) (hn : n ≤ 65535) :
    Calls Tryd.prog 12 #[ptrV g.b, .int .i64 n] w fun e w' => e = .returned (.string ⟨(g.r.text s n).1.toArray⟩) ∧ Dm w0 s { g with r := (g.r.text s n).2 } w' ∧ Ch (fun k => k = g.b) w w' := by
  refine (text_any w g.b s g.r n h.rd hs h.pos hn).mono ?_
  rintro e w' ⟨rfl, h1, h2⟩
  exact ⟨rfl, h.read h1 (text_posle hs h.pos) (grown_ch h2), grown_ch h2⟩
theorem Dm.flag (h : Dm w0 s g w) (hs : s.length ≤ 4000000) :
    Calls Tryd.prog 15 #[ptrV g.b] w fun e w' => e = .returned (.bool (g.r.flag s).1) ∧ Dm w0 s { g with r := (g.r.flag s).2 } w' ∧ Ch (fun k => k = g.b) w w' := by
  refine (rflag_any w g.b s g.r h.rd hs h.pos).mono ?_
  rintro e w' ⟨rfl, h1, h2⟩
  exact ⟨rfl, h.read h1 (flag_posle hs h.pos) (grown_ch h2), grown_ch h2⟩
theorem Dm.no (h : Dm w0 s g w) (k a : Nat) :
    Calls Tryd.prog 11 #[ptrV g.b, .int .i64 k, .int .i64 a] w fun e w' => e = .returned (.tuple #[]) ∧ Dm w0 s { g with r := g.r.no k a } w' ∧ Ch (fun k => k = g.b) w w' := by
  refine (no_any w g.b s g.r k a h.rd).mono ?_
  rintro e w' ⟨rfl, h1, h2⟩
  exact ⟨rfl, h.read h1 (by rw [no_pos]; exact h.pos) (grown_ch h2), grown_ch h2⟩
theorem Dm.ok (h : Dm w0 s g w) : Calls Tryd.prog 14 #[ptrV g.b] w fun e w' => e = .returned (.bool (decide (g.r.fk = 0))) ∧ w' = w := ok_any w g.b s g.r h.rd
theorem Dm.ins (h : Dm w0 s g w) (hs : s.length ≤ 4000000) :
    Calls Tryd.prog 16 #[ptrV g.b] w fun e w' => e = .returned (insV (g.r.ins s).1) ∧ Dm w0 s { g with r := (g.r.ins s).2 } w' ∧ Ch (fun k => k = g.b) w w' := by
  refine (rins_any w g.b s g.r h.rd hs h.pos).mono ?_
  rintro e w' ⟨rfl, h1, h2⟩
  exact ⟨rfl, h.read h1 (ins_posle hs h.pos) (grown_ch h2), grown_ch h2⟩
end
end Go.Proofs.YticmoofjjikefaaDoor
