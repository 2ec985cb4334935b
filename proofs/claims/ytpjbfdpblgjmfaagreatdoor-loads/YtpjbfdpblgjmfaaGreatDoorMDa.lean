/-
  Decode's state in memory: the Reader, the code that is made, its rows; who owns which blocks.
  Decode's state: an operation, a handler, a function more.
  Decode's frame; its loops' bodies.
-/
import Derived.Test.YtpjbfdpblgjmfaaGreatDoorMO
import Derived.Test.YtpjbfdpblgjmfaaGreatDoorMD
import Derived.Test.YtpjbfdpblgjmfaaGreatDoorMF
set_option linter.unusedVariables false
set_option linter.unusedSimpArgs false
namespace Go.Proofs.YtpjbfdpblgjmfaaGreatDoor
open Go.RowKit

def opC (o : Cd.Op) : List Value := [.string ⟨o.name.toArray⟩, .bool o.once]
def hanC (x : Value × Cd.Han) : List Value := [.bool x.2.shallow, x.1]
def funC (x : Value × Cd.Fun) : List Value := [.int .i64 x.2.free, .int .i64 x.2.slots, x.1]
def insC (x : Cd.Ins) : List Value := [.int .i64 x.op, .int .i64 x.a, .int .i64 x.b, .int .i64 x.n]
structure Dg where
  b : Nat
  cb : Nat
  t2 : Nat
  t3 : Nat
  r : Cd.Rd
  sh : List UInt8
  vo : Value
  vh : Value
  vf : Value
  os : List Cd.Op
  hs : List (Value × Cd.Han)
  fs : List (Value × Cd.Fun)
  D : Nat → Prop
  X : Nat → Prop
  Y : Nat → Prop
def Dg.O (g : Dg) : Nat → Nat → Prop
  | 0 => fun k => k = g.b
  | 1 => fun k => k = g.cb
  | 2 => fun k => g.vo.ownBlock = some k
  | 3 => fun k => g.vh.ownBlock = some k
  | 4 => fun k => g.vf.ownBlock = some k
  | 5 => g.D
  | 6 => g.X
  | 7 => g.Y
  | 8 => fun k => k = g.t2
  | 9 => fun k => k = g.t3
  | _ => fun _ => False
structure Dm (w0 : World) (s : List UInt8) (g : Dg) (w : World) : Prop where
  own : Own w0 g.O w
  rd : RdM w g.b s g.r
  pos : g.r.pos ≤ 4000003
  c : w.heap[g.cb]? = some (.cells #[.string ⟨g.sh.toArray⟩, g.vo, g.vh, g.vf] 38 (0, 0))
  ro : w.ownsRow 0 119 2 g.vo g.os.length (g.os.flatMap opC)
  rh : w.ownsRow 0 121 2 g.vh g.hs.length (g.hs.flatMap hanC)
  rf : w.ownsRow 0 85 3 g.vf g.fs.length (g.fs.flatMap funC)
  hd : ∀ x ∈ g.hs, w.ownsRow 0 3 1 x.1 x.2.ops.length (x.2.ops.map (Value.int .i64)) ∧ ∀ k, x.1.ownBlock = some k → g.D k
  fd : ∀ x ∈ g.fs, w.ownsRow 0 123 4 x.1 x.2.ins.length (x.2.ins.flatMap insC) ∧ ∀ k, x.1.ownBlock = some k → g.D k
  c2 : w.heap[g.t2]? = some (.cells #[.string ⟨#[]⟩, .slice none 0 0, .slice none 0 0, .slice none 0 0] 38 (0, 0))
  c3 : w.heap[g.t3]? = some (.cells #[.int .i64 0, .int .i64 0] 25 (0, 0))

/-- What was not turned stands: all owners but i. -/
structure Rest (g : Dg) (i : Nat) (w w' : World) : Prop where
  s : ∀ j, j ≠ i → ∀ k, g.O j k → w'.heap[k]? = w.heap[k]?
theorem Dm.rest {w0 w w' : World} {s : List UInt8} {g : Dg} (h : Dm w0 s g w) (i : Nat) (hc : Ch (g.O i) w w') : Rest g i w w' := ⟨fun _ hj => h.own.same hj hc⟩
theorem Dm.quiet {w0 w w' : World} {s : List UInt8} {g : Dg} (h : Dm w0 s g w) (hc : Ch (fun _ => False) w w') : Dm w0 s g w' := by
  have hs : ∀ j k, g.O j k → w'.heap[k]? = w.heap[k]? := fun j k hk => hc.same k (h.own.lt j k hk) (fun e => e)
  exact ⟨h.own.quiet hc, (hs 0 _ rfl).trans h.rd, h.pos, (hs 1 _ rfl).trans h.c, ownsRow_keep h.ro (hs 2), ownsRow_keep h.rh (hs 3), ownsRow_keep h.rf (hs 4),
    fun x hx => ⟨ownsRow_keep (h.hd x hx).1 (fun k hk => hs 5 k ((h.hd x hx).2 k hk)), (h.hd x hx).2⟩, fun x hx => ⟨ownsRow_keep (h.fd x hx).1 (fun k hk => hs 5 k ((h.fd x hx).2 k hk)), (h.fd x hx).2⟩, (hs 8 _ rfl).trans h.c2, (hs 9 _ rfl).trans h.c3⟩
/-- The Reader has read. -/
theorem Dm.read {w0 w w' : World} {s : List UInt8} {g : Dg} (h : Dm w0 s g w) {r' : Cd.Rd} (hr : RdM w' g.b s r') (hp : r'.pos ≤ 4000003) (hc : Ch (fun k => k = g.b) w w') : Dm w0 s { g with r := r' } w' := by
  have hR := h.rest 0 hc
  refine ⟨(h.own.step 0 hc (fun k hk => .inl hk) (fun k hk => Nat.lt_of_lt_of_le (h.own.lt 0 k hk) hc.size)).as (fun i k hk => ?_), hr, hp, (hR.s 1 (by omega) _ rfl).trans h.c, ownsRow_keep h.ro (hR.s 2 (by omega)), ownsRow_keep h.rh (hR.s 3 (by omega)), ownsRow_keep h.rf (hR.s 4 (by omega)),
    fun x hx => ⟨ownsRow_keep (h.hd x hx).1 (fun k hk => hR.s 5 (by omega) k ((h.hd x hx).2 k hk)), (h.hd x hx).2⟩, fun x hx => ⟨ownsRow_keep (h.fd x hx).1 (fun k hk => hR.s 5 (by omega) k ((h.fd x hx).2 k hk)), (h.fd x hx).2⟩, (hR.s 8 (by omega) _ rfl).trans h.c2, (hR.s 9 (by omega) _ rfl).trans h.c3⟩
  by_cases e : i = 0
  · subst e; rw [upd_same]; exact hk
  · rw [upd_other _ _ e]
    have : Dg.O { g with r := r' } i = Dg.O g i := by unfold Dg.O; split <;> rfl
    rw [this] at hk
    exact hk
/-- An owner that stands aside (6 to 9) turns its blocks, or has others. -/
theorem Dm.aside {w0 w w' : World} {s : List UInt8} {g g' : Dg} (h : Dm w0 s g w) (i : Nat) (hi : i = 6 ∨ i = 7) {Z : Nat → Prop} (hc : Ch (g.O i) w w') (hm : More w (g.O i) Z) (hZ : ∀ k, Z k → k < w'.heap.size) (hg : g' = if i = 6 then { g with X := Z } else { g with Y := Z }) : Dm w0 s g' w' := by
  have hR := h.rest i hc
  have hO : ∀ j k, g'.O j k → upd g.O i Z j k := fun j k hk => by
    by_cases e : j = i
    · subst e
      rw [upd_same]
      rcases hi with rfl | rfl
      · rw [hg] at hk; exact hk
      · rw [hg] at hk; exact hk
    · rw [upd_other _ _ e]
      rcases hi with rfl | rfl
      · rw [hg] at hk
        unfold Dg.O at hk ⊢
        split at hk <;> first | exact hk | exact absurd rfl e
      · rw [hg] at hk
        unfold Dg.O at hk ⊢
        split at hk <;> first | exact hk | exact absurd rfl e
  have hown := (h.own.step i hc hm hZ).as hO
  have n0 : (0 : Nat) ≠ i := by omega
  have n1 : (1 : Nat) ≠ i := by omega
  have n2 : (2 : Nat) ≠ i := by omega
  have n3 : (3 : Nat) ≠ i := by omega
  have n4 : (4 : Nat) ≠ i := by omega
  have n5 : (5 : Nat) ≠ i := by omega
  have n8 : (8 : Nat) ≠ i := by omega
  have n9 : (9 : Nat) ≠ i := by omega
  have key : Dm w0 s { g with X := g'.X, Y := g'.Y } w' := by
    refine ⟨?_, (hR.s 0 n0 _ rfl).trans h.rd, h.pos, (hR.s 1 n1 _ rfl).trans h.c, ownsRow_keep h.ro (hR.s 2 n2), ownsRow_keep h.rh (hR.s 3 n3), ownsRow_keep h.rf (hR.s 4 n4),
      fun x hx => ⟨ownsRow_keep (h.hd x hx).1 (fun k hk => hR.s 5 n5 k ((h.hd x hx).2 k hk)), (h.hd x hx).2⟩, fun x hx => ⟨ownsRow_keep (h.fd x hx).1 (fun k hk => hR.s 5 n5 k ((h.fd x hx).2 k hk)), (h.fd x hx).2⟩, (hR.s 8 n8 _ rfl).trans h.c2, (hR.s 9 n9 _ rfl).trans h.c3⟩
    rcases hi with rfl | rfl
    · rw [hg] at hown ⊢; exact hown
    · rw [hg] at hown ⊢; exact hown
  rcases hi with rfl | rfl
  · rw [hg] at key ⊢; exact key
  · rw [hg] at key ⊢; exact key
theorem grown_ch {w w' : World} {b : Nat} (h : w.grownBy w' (some b)) : Ch (fun k => k = b) w w' := Ch.grown h (fun k hk => (Option.some.inj hk).symm)

section
variable {w0 w : World} {s : List UInt8} {g : Dg}
theorem Dm.num (h : Dm w0 s g w) (hs : s.length ≤ 4000000) (n : Nat) (hn : n ≤ 8) :
    Calls Tryz.prog 33 #[ptrV g.b, .int .i64 n] w fun e w' => e = .returned (.int .i64 (Cd.sgn (g.r.num s n).1)) ∧ Dm w0 s { g with r := (g.r.num s n).2 } w' ∧ Ch (fun k => k = g.b) w w' := by
  refine (num_any w g.b s g.r n h.rd hs h.pos hn).mono ?_
  rintro e w' ⟨rfl, h1, h2⟩
  exact ⟨rfl, h.read h1 (num_posle hs h.pos) (grown_ch h2), grown_ch h2⟩
theorem no_pos (r : Cd.Rd) (k a : Nat) : (r.no k a).pos = r.pos := by unfold Cd.Rd.no; split <;> rfl
theorem text_posle {n : Nat} {r : Cd.Rd} (hs : s.length ≤ 4000000) (hp : r.pos ≤ 4000003) : (r.text s n).2.pos ≤ 4000003 := by
  unfold Cd.Rd.text
  split
  · rename_i hh
    have := hh.2
    show r.pos + n ≤ 4000003
    omega
  · show (r.no 13 s.length).pos ≤ 4000003
    rw [no_pos]; exact hp
theorem flag_posle {r : Cd.Rd} (hs : s.length ≤ 4000000) (hp : r.pos ≤ 4000003) : (r.flag s).2.pos ≤ 4000003 := by
  have := num_posle (n := 1) hs hp
  unfold Cd.Rd.flag
  split
  · show ((r.num s 1).2.no _ _).pos ≤ _
    rw [no_pos]; exact this
  · exact this
theorem ins_posle {r : Cd.Rd} (hs : s.length ≤ 4000000) (hp : r.pos ≤ 4000003) : (r.ins s).2.pos ≤ 4000003 := by
  have h1 := num_posle (n := 1) hs hp
  unfold Cd.Rd.ins
  dsimp only
  split
  · show ((r.num s 1).2.no _ _).pos ≤ _
    rw [no_pos]; exact h1
  · split
    · exact num_posle hs h1
    · split
      · exact num_posle hs h1
      · split
        · exact num_posle hs (num_posle hs h1)
        · exact h1
theorem Dm.text (h : Dm w0 s g w) (hs : s.length ≤ 4000000) (n : Nat) (hn : n ≤ 65535) :
    Calls Tryz.prog 32 #[ptrV g.b, .int .i64 n] w fun e w' => e = .returned (.string ⟨(g.r.text s n).1.toArray⟩) ∧ Dm w0 s { g with r := (g.r.text s n).2 } w' ∧ Ch (fun k => k = g.b) w w' := by
  refine (text_any w g.b s g.r n h.rd hs h.pos hn).mono ?_
  rintro e w' ⟨rfl, h1, h2⟩
  exact ⟨rfl, h.read h1 (text_posle hs h.pos) (grown_ch h2), grown_ch h2⟩
theorem Dm.flag (h : Dm w0 s g w) (hs : s.length ≤ 4000000) :
    Calls Tryz.prog 35 #[ptrV g.b] w fun e w' => e = .returned (.bool (g.r.flag s).1) ∧ Dm w0 s { g with r := (g.r.flag s).2 } w' ∧ Ch (fun k => k = g.b) w w' := by
  refine (rflag_any w g.b s g.r h.rd hs h.pos).mono ?_
  rintro e w' ⟨rfl, h1, h2⟩
  exact ⟨rfl, h.read h1 (flag_posle hs h.pos) (grown_ch h2), grown_ch h2⟩
theorem Dm.no (h : Dm w0 s g w) (k a : Nat) :
    Calls Tryz.prog 31 #[ptrV g.b, .int .i64 k, .int .i64 a] w fun e w' => e = .returned (.tuple #[]) ∧ Dm w0 s { g with r := g.r.no k a } w' ∧ Ch (fun k => k = g.b) w w' := by
  refine (no_any w g.b s g.r k a h.rd).mono ?_
  rintro e w' ⟨rfl, h1, h2⟩
  exact ⟨rfl, h.read h1 (by rw [no_pos]; exact h.pos) (grown_ch h2), grown_ch h2⟩
theorem Dm.ok (h : Dm w0 s g w) : Calls Tryz.prog 34 #[ptrV g.b] w fun e w' => e = .returned (.bool (decide (g.r.fk = 0))) ∧ w' = w := ok_any w g.b s g.r h.rd
theorem Dm.ins (h : Dm w0 s g w) (hs : s.length ≤ 4000000) :
    Calls Tryz.prog 36 #[ptrV g.b] w fun e w' => e = .returned (insV (g.r.ins s).1) ∧ Dm w0 s { g with r := (g.r.ins s).2 } w' ∧ Ch (fun k => k = g.b) w w' := by
  refine (rins_any w g.b s g.r h.rd hs h.pos).mono ?_
  rintro e w' ⟨rfl, h1, h2⟩
  exact ⟨rfl, h.read h1 (ins_posle hs h.pos) (grown_ch h2), grown_ch h2⟩
end
end Go.Proofs.YtpjbfdpblgjmfaaGreatDoor

namespace Go.Proofs.YtpjbfdpblgjmfaaGreatDoor
open Go.RowKit

theorem Dm.pushOp {w0 w w1 : World} {s : List UInt8} {g : Dg} (h : Dm w0 s g w) {x : Cd.Op} {v' : Value} (hrow : w1.ownsRow 0 119 2 v' (g.os.length + 1) (g.os.flatMap opC ++ opC x)) (hc : Ch (fun k => g.vo.ownBlock = some k) w w1) (hm : ∀ k, v'.ownBlock = some k → g.vo.ownBlock = some k ∨ w.heap.size ≤ k) :
    Dm w0 s { g with vo := v', os := g.os ++ [x] } (w1.setCell ⟨g.cb, 1, none⟩ v') := by
  have o1 := h.own.step 2 (Y := fun k => v'.ownBlock = some k) hc hm (fun k hk => ownsRow_lt hrow hk)
  have hc2 : Ch (fun k => k = g.cb) w1 (w1.setCell ⟨g.cb, 1, none⟩ v') := Ch.setCell _ _ _ rfl
  have e1 : upd g.O 2 (fun k => v'.ownBlock = some k) 1 = fun k => k = g.cb := upd_other _ _ (by omega)
  have o2 := o1.step 1 (Y := fun k => k = g.cb) (by rw [e1]; exact hc2) (fun k hk => .inl (by rw [e1]; exact hk)) (fun k hk => Nat.lt_of_lt_of_le (o1.lt 1 k (by rw [e1]; exact hk)) hc2.size)
  have hs : ∀ j, j ≠ 2 → j ≠ 1 → ∀ k, g.O j k → (w1.setCell ⟨g.cb, 1, none⟩ v').heap[k]? = w.heap[k]? := fun j hj h1 k hk =>
    (hc2.same k (Nat.lt_of_lt_of_le (h.own.lt j k hk) hc.size) (fun e => h1 (h.own.dj j 1 k hk e))).trans (h.own.same hj hc k hk)
  have hcb : w1.heap[g.cb]? = w.heap[g.cb]? := h.own.same (i := 2) (j := 1) (by omega) hc g.cb rfl
  have hne : ∀ k, v'.ownBlock = some k → k ≠ g.cb := fun k hk e => by
    have := o1.dj 2 1 k (by rw [upd_same]; exact hk) (by rw [e1]; exact e)
    omega
  refine ⟨o2.as (fun i k hk => ?own), (hs 0 (by omega) (by omega) _ rfl).trans h.rd, h.pos, ?c, ?row, ownsRow_keep h.rh (hs 3 (by omega) (by omega)), ownsRow_keep h.rf (hs 4 (by omega) (by omega)), fun y hy => ⟨ownsRow_keep (h.hd y hy).1 (fun k hk => hs 5 (by omega) (by omega) k ((h.hd y hy).2 k hk)), (h.hd y hy).2⟩, fun y hy => ⟨ownsRow_keep (h.fd y hy).1 (fun k hk => hs 5 (by omega) (by omega) k ((h.fd y hy).2 k hk)), (h.fd y hy).2⟩, (hs 8 (by omega) (by omega) _ rfl).trans h.c2, (hs 9 (by omega) (by omega) _ rfl).trans h.c3⟩
  case own =>
    by_cases i1 : i = 1
    · subst i1; rw [upd_same]; exact hk
    · rw [upd_other _ _ i1]
      by_cases i2 : i = 2
      · subst i2; rw [upd_same]; exact hk
      · rw [upd_other _ _ i2]
        unfold Dg.O at hk ⊢
        split at hk <;> first | exact hk | exact absurd rfl i2
  case c =>
    rw [blk_set (hcb.trans h.c)]
    rfl
  case row =>
    have := ownsRow_keep hrow (w' := w1.setCell ⟨g.cb, 1, none⟩ v') (fun k hk => Below.heap_setCell _ _ _ k (hne k hk))
    simpa using this
theorem Dm.pushHan {w0 w w1 : World} {s : List UInt8} {g : Dg} (h : Dm w0 s g w) {x : Value × Cd.Han} {v' : Value} (hrow : w1.ownsRow 0 121 2 v' (g.hs.length + 1) (g.hs.flatMap hanC ++ hanC x)) (hc : Ch (fun k => g.vh.ownBlock = some k) w w1) (hm : ∀ k, v'.ownBlock = some k → g.vh.ownBlock = some k ∨ w.heap.size ≤ k) (hx : w.ownsRow 0 3 1 x.1 x.2.ops.length (x.2.ops.map (Value.int .i64)) ∧ ∀ k, x.1.ownBlock = some k → g.D k) :
    Dm w0 s { g with vh := v', hs := g.hs ++ [x] } (w1.setCell ⟨g.cb, 2, none⟩ v') := by
  have o1 := h.own.step 3 (Y := fun k => v'.ownBlock = some k) hc hm (fun k hk => ownsRow_lt hrow hk)
  have hc2 : Ch (fun k => k = g.cb) w1 (w1.setCell ⟨g.cb, 2, none⟩ v') := Ch.setCell _ _ _ rfl
  have e1 : upd g.O 3 (fun k => v'.ownBlock = some k) 1 = fun k => k = g.cb := upd_other _ _ (by omega)
  have o2 := o1.step 1 (Y := fun k => k = g.cb) (by rw [e1]; exact hc2) (fun k hk => .inl (by rw [e1]; exact hk)) (fun k hk => Nat.lt_of_lt_of_le (o1.lt 1 k (by rw [e1]; exact hk)) hc2.size)
  have hs : ∀ j, j ≠ 3 → j ≠ 1 → ∀ k, g.O j k → (w1.setCell ⟨g.cb, 2, none⟩ v').heap[k]? = w.heap[k]? := fun j hj h1 k hk =>
    (hc2.same k (Nat.lt_of_lt_of_le (h.own.lt j k hk) hc.size) (fun e => h1 (h.own.dj j 1 k hk e))).trans (h.own.same hj hc k hk)
  have hcb : w1.heap[g.cb]? = w.heap[g.cb]? := h.own.same (i := 3) (j := 1) (by omega) hc g.cb rfl
  have hne : ∀ k, v'.ownBlock = some k → k ≠ g.cb := fun k hk e => by
    have := o1.dj 3 1 k (by rw [upd_same]; exact hk) (by rw [e1]; exact e)
    omega
  refine ⟨o2.as (fun i k hk => ?own), (hs 0 (by omega) (by omega) _ rfl).trans h.rd, h.pos, ?c, ownsRow_keep h.ro (hs 2 (by omega) (by omega)), ?row, ownsRow_keep h.rf (hs 4 (by omega) (by omega)), fun y hy => by
      rcases List.mem_append.1 hy with hy | hy
      · exact ⟨ownsRow_keep (h.hd y hy).1 (fun k hk => hs 5 (by omega) (by omega) k ((h.hd y hy).2 k hk)), (h.hd y hy).2⟩
      · obtain rfl : y = x := by simpa using hy
        exact ⟨ownsRow_keep hx.1 (fun k hk => hs 5 (by omega) (by omega) k (hx.2 k hk)), hx.2⟩, fun y hy => ⟨ownsRow_keep (h.fd y hy).1 (fun k hk => hs 5 (by omega) (by omega) k ((h.fd y hy).2 k hk)), (h.fd y hy).2⟩, (hs 8 (by omega) (by omega) _ rfl).trans h.c2, (hs 9 (by omega) (by omega) _ rfl).trans h.c3⟩
  case own =>
    by_cases i1 : i = 1
    · subst i1; rw [upd_same]; exact hk
    · rw [upd_other _ _ i1]
      by_cases i2 : i = 3
      · subst i2; rw [upd_same]; exact hk
      · rw [upd_other _ _ i2]
        unfold Dg.O at hk ⊢
        split at hk <;> first | exact hk | exact absurd rfl i2
  case c =>
    rw [blk_set (hcb.trans h.c)]
    rfl
  case row =>
    have := ownsRow_keep hrow (w' := w1.setCell ⟨g.cb, 2, none⟩ v') (fun k hk => Below.heap_setCell _ _ _ k (hne k hk))
    simpa using this
theorem Dm.pushFun {w0 w w1 : World} {s : List UInt8} {g : Dg} (h : Dm w0 s g w) {x : Value × Cd.Fun} {v' : Value} (hrow : w1.ownsRow 0 85 3 v' (g.fs.length + 1) (g.fs.flatMap funC ++ funC x)) (hc : Ch (fun k => g.vf.ownBlock = some k) w w1) (hm : ∀ k, v'.ownBlock = some k → g.vf.ownBlock = some k ∨ w.heap.size ≤ k) (hx : w.ownsRow 0 123 4 x.1 x.2.ins.length (x.2.ins.flatMap insC) ∧ ∀ k, x.1.ownBlock = some k → g.D k) :
    Dm w0 s { g with vf := v', fs := g.fs ++ [x] } (w1.setCell ⟨g.cb, 3, none⟩ v') := by
  have o1 := h.own.step 4 (Y := fun k => v'.ownBlock = some k) hc hm (fun k hk => ownsRow_lt hrow hk)
  have hc2 : Ch (fun k => k = g.cb) w1 (w1.setCell ⟨g.cb, 3, none⟩ v') := Ch.setCell _ _ _ rfl
  have e1 : upd g.O 4 (fun k => v'.ownBlock = some k) 1 = fun k => k = g.cb := upd_other _ _ (by omega)
  have o2 := o1.step 1 (Y := fun k => k = g.cb) (by rw [e1]; exact hc2) (fun k hk => .inl (by rw [e1]; exact hk)) (fun k hk => Nat.lt_of_lt_of_le (o1.lt 1 k (by rw [e1]; exact hk)) hc2.size)
  have hs : ∀ j, j ≠ 4 → j ≠ 1 → ∀ k, g.O j k → (w1.setCell ⟨g.cb, 3, none⟩ v').heap[k]? = w.heap[k]? := fun j hj h1 k hk =>
    (hc2.same k (Nat.lt_of_lt_of_le (h.own.lt j k hk) hc.size) (fun e => h1 (h.own.dj j 1 k hk e))).trans (h.own.same hj hc k hk)
  have hcb : w1.heap[g.cb]? = w.heap[g.cb]? := h.own.same (i := 4) (j := 1) (by omega) hc g.cb rfl
  have hne : ∀ k, v'.ownBlock = some k → k ≠ g.cb := fun k hk e => by
    have := o1.dj 4 1 k (by rw [upd_same]; exact hk) (by rw [e1]; exact e)
    omega
  refine ⟨o2.as (fun i k hk => ?own), (hs 0 (by omega) (by omega) _ rfl).trans h.rd, h.pos, ?c, ownsRow_keep h.ro (hs 2 (by omega) (by omega)), ownsRow_keep h.rh (hs 3 (by omega) (by omega)), ?row, fun y hy => ⟨ownsRow_keep (h.hd y hy).1 (fun k hk => hs 5 (by omega) (by omega) k ((h.hd y hy).2 k hk)), (h.hd y hy).2⟩, fun y hy => by
      rcases List.mem_append.1 hy with hy | hy
      · exact ⟨ownsRow_keep (h.fd y hy).1 (fun k hk => hs 5 (by omega) (by omega) k ((h.fd y hy).2 k hk)), (h.fd y hy).2⟩
      · obtain rfl : y = x := by simpa using hy
        exact ⟨ownsRow_keep hx.1 (fun k hk => hs 5 (by omega) (by omega) k (hx.2 k hk)), hx.2⟩, (hs 8 (by omega) (by omega) _ rfl).trans h.c2, (hs 9 (by omega) (by omega) _ rfl).trans h.c3⟩
  case own =>
    by_cases i1 : i = 1
    · subst i1; rw [upd_same]; exact hk
    · rw [upd_other _ _ i1]
      by_cases i2 : i = 4
      · subst i2; rw [upd_same]; exact hk
      · rw [upd_other _ _ i2]
        unfold Dg.O at hk ⊢
        split at hk <;> first | exact hk | exact absurd rfl i2
  case c =>
    rw [blk_set (hcb.trans h.c)]
    rfl
  case row =>
    have := ownsRow_keep hrow (w' := w1.setCell ⟨g.cb, 3, none⟩ v') (fun k hk => Below.heap_setCell _ _ _ k (hne k hk))
    simpa using this
/-- A row that is done goes over to what stands. -/
theorem Dm.give {w0 w : World} {s : List UInt8} {g : Dg} (h : Dm w0 s g w) : Dm w0 s { g with D := fun k => g.D k ∨ g.Y k, Y := fun _ => False } w := by
  refine ⟨(h.own.give 7 5 (by omega)).as (fun i k hk => ?_), h.rd, h.pos, h.c, h.ro, h.rh, h.rf, fun x hx => ⟨(h.hd x hx).1, fun k hk => .inl ((h.hd x hx).2 k hk)⟩, fun x hx => ⟨(h.fd x hx).1, fun k hk => .inl ((h.fd x hx).2 k hk)⟩, h.c2, h.c3⟩
  by_cases i1 : i = 7
  · subst i1; exact hk.elim
  · rw [upd_other _ _ i1]
    by_cases i2 : i = 5
    · subst i2; rw [upd_same]; exact hk
    · rw [upd_other _ _ i2]
      unfold Dg.O at hk ⊢
      split at hk <;> first | exact hk | exact absurd rfl i2 | exact absurd rfl i1
end Go.Proofs.YtpjbfdpblgjmfaaGreatDoor

namespace Go.Proofs.YtpjbfdpblgjmfaaGreatDoor
open Go.RowKit

set_option maxRecDepth 100000 in
theorem list_open (l : List Value) (h : l.length = 196) : ∃ F : Nat → Value, l = [F 0, F 1, F 2, F 3, F 4, F 5, F 6, F 7, F 8, F 9, F 10, F 11, F 12, F 13, F 14, F 15, F 16, F 17, F 18, F 19, F 20, F 21, F 22, F 23, F 24, F 25, F 26, F 27, F 28, F 29, F 30, F 31, F 32, F 33, F 34, F 35, F 36, F 37, F 38, F 39, F 40, F 41, F 42, F 43, F 44, F 45, F 46, F 47, F 48, F 49, F 50, F 51, F 52, F 53, F 54, F 55, F 56, F 57, F 58, F 59, F 60, F 61, F 62, F 63, F 64, F 65, F 66, F 67, F 68, F 69, F 70, F 71, F 72, F 73, F 74, F 75, F 76, F 77, F 78, F 79, F 80, F 81, F 82, F 83, F 84, F 85, F 86, F 87, F 88, F 89, F 90, F 91, F 92, F 93, F 94, F 95, F 96, F 97, F 98, F 99, F 100, F 101, F 102, F 103, F 104, F 105, F 106, F 107, F 108, F 109, F 110, F 111, F 112, F 113, F 114, F 115, F 116, F 117, F 118, F 119, F 120, F 121, F 122, F 123, F 124, F 125, F 126, F 127, F 128, F 129, F 130, F 131, F 132, F 133, F 134, F 135, F 136, F 137, F 138, F 139, F 140, F 141, F 142, F 143, F 144, F 145, F 146, F 147, F 148, F 149, F 150, F 151, F 152, F 153, F 154, F 155, F 156, F 157, F 158, F 159, F 160, F 161, F 162, F 163, F 164, F 165, F 166, F 167, F 168, F 169, F 170, F 171, F 172, F 173, F 174, F 175, F 176, F 177, F 178, F 179, F 180, F 181, F 182, F 183, F 184, F 185, F 186, F 187, F 188, F 189, F 190, F 191, F 192, F 193, F 194, F 195] ∧ ∀ i v, l[i]? = some v → F i = v := by
  refine ⟨fun i => l.getD i undef, ?_, fun i v hv => by simp [List.getD, hv]⟩
  have e : l = (List.range 196).map (fun i => l.getD i undef) := by
    apply List.ext_getElem?
    intro i
    by_cases hi : i < l.length
    · simp [List.getElem?_range (show i < 196 by omega), List.getD, hi]
    · rw [List.getElem?_eq_none (by omega), List.getElem?_eq_none (by simp; omega)]
  exact e
theorem act_open {a : Act} (h : a.tmps.size = 196) (hd : a.defers = []) : ∃ F : Nat → Value, a = ⟨#[F 0, F 1, F 2, F 3, F 4, F 5, F 6, F 7, F 8, F 9, F 10, F 11, F 12, F 13, F 14, F 15, F 16, F 17, F 18, F 19, F 20, F 21, F 22, F 23, F 24, F 25, F 26, F 27, F 28, F 29, F 30, F 31, F 32, F 33, F 34, F 35, F 36, F 37, F 38, F 39, F 40, F 41, F 42, F 43, F 44, F 45, F 46, F 47, F 48, F 49, F 50, F 51, F 52, F 53, F 54, F 55, F 56, F 57, F 58, F 59, F 60, F 61, F 62, F 63, F 64, F 65, F 66, F 67, F 68, F 69, F 70, F 71, F 72, F 73, F 74, F 75, F 76, F 77, F 78, F 79, F 80, F 81, F 82, F 83, F 84, F 85, F 86, F 87, F 88, F 89, F 90, F 91, F 92, F 93, F 94, F 95, F 96, F 97, F 98, F 99, F 100, F 101, F 102, F 103, F 104, F 105, F 106, F 107, F 108, F 109, F 110, F 111, F 112, F 113, F 114, F 115, F 116, F 117, F 118, F 119, F 120, F 121, F 122, F 123, F 124, F 125, F 126, F 127, F 128, F 129, F 130, F 131, F 132, F 133, F 134, F 135, F 136, F 137, F 138, F 139, F 140, F 141, F 142, F 143, F 144, F 145, F 146, F 147, F 148, F 149, F 150, F 151, F 152, F 153, F 154, F 155, F 156, F 157, F 158, F 159, F 160, F 161, F 162, F 163, F 164, F 165, F 166, F 167, F 168, F 169, F 170, F 171, F 172, F 173, F 174, F 175, F 176, F 177, F 178, F 179, F 180, F 181, F 182, F 183, F 184, F 185, F 186, F 187, F 188, F 189, F 190, F 191, F 192, F 193, F 194, F 195], []⟩ ∧ ∀ i v, a.tmps[i]? = some v → F i = v := by
  obtain ⟨⟨l⟩, d⟩ := a
  obtain rfl : d = [] := hd
  obtain ⟨F, h1, h2⟩ := list_open l (by simpa using h)
  exact ⟨F, by rw [← h1], fun i v hv => h2 i v (by simpa using hv)⟩
/-- The slots of ks are F's. -/
structure FrK (ks : List Nat) (F : Nat → Value) (a : Act) : Prop where
  sz : a.tmps.size = 196
  df : a.defers = []
  k : ∀ i ∈ ks, a.tmps[i]? = some (F i)
theorem frk_self {ks : List Nat} {a : Act} (h : a.tmps.size = 196) (hd : a.defers = []) (hk : ∀ i ∈ ks, i < 196) : FrK ks (fun i => a.tmps.getD i undef) a := by
  refine ⟨h, hd, fun i hi => ?_⟩
  have hi2 : i < a.tmps.size := by rw [h]; exact hk i hi
  simp [Array.getD_eq_getD_getElem?, hi2]
end Go.Proofs.YtpjbfdpblgjmfaaGreatDoor
