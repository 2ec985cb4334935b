/-
  The document's Decode as a plain function; what Encode writes it reads as the same code.
  The program's reader: how its elements lie in memory; a number of a list, an operation, an instruction.
  The program's reader: an operation.
  The program's reader: a handler.
-/
import Derived.Test.YtpjbfdpblgjmfaaGreatDoorMA
import Derived.Test.YtpjbfdpblgjmfaaGreatDoorMRe
set_option linter.unusedVariables false
set_option linter.unusedSimpArgs false
namespace Go.Proofs.YtpjbfdpblgjmfaaGreatDoor
namespace Cd

def Rd.opsL (s : List UInt8) : Nat → Rd → List Op × Rd
  | 0, r => ([], r)
  | n + 1, r =>
    if r.fk = 0 then
      let k := r.num s 1
      let r1 := if 20 < k.1 then k.2.no 14 (k.2.pos - 1) else k.2
      let t := r1.text s k.1
      let o := t.2.flag s
      let q := opsL s n o.2
      (⟨t.1, o.1⟩ :: q.1, q.2)
    else ([], r)
def Rd.intsL (s : List UInt8) : Nat → Rd → List Int × Rd
  | 0, r => ([], r)
  | n + 1, r =>
    if r.fk = 0 then
      let k := r.num s 1
      let q := intsL s n k.2
      ((k.1 : Int) :: q.1, q.2)
    else ([], r)
def Rd.han (s : List UInt8) (r : Rd) : Han × Rd :=
  let a := r.flag s
  let k := a.2.num s 1
  let q := k.2.intsL s k.1
  (⟨a.1, q.1⟩, q.2)
def Rd.hansL (s : List UInt8) : Nat → Rd → List Han × Rd
  | 0, r => ([], r)
  | n + 1, r =>
    if r.fk = 0 then
      let h := r.han s
      let q := hansL s n h.2
      (h.1 :: q.1, q.2)
    else ([], r)
def Rd.insL (s : List UInt8) : Nat → Rd → List Ins × Rd
  | 0, r => ([], r)
  | n + 1, r =>
    if r.fk = 0 then
      let k := r.ins s
      let q := insL s n k.2
      (k.1 :: q.1, q.2)
    else ([], r)
def Rd.fn (s : List UInt8) (r : Rd) : Fun × Rd :=
  let a := r.num s 2
  let b := a.2.num s 2
  let k := b.2.num s 2
  let q := k.2.insL s k.1
  (⟨a.1, b.1, q.1⟩, q.2)
def Rd.funsL (s : List UInt8) : Nat → Rd → List Fun × Rd
  | 0, r => ([], r)
  | n + 1, r =>
    if r.fk = 0 then
      let h := r.fn s
      let q := funsL s n h.2
      (h.1 :: q.1, q.2)
    else ([], r)
/-- The first three bytes. -/
def Rd.head (s : List UInt8) : Nat → Rd → Rd
  | 0, r => r
  | n + 1, r => Rd.head s n (match s[2 - n]?, Cd.head[2 - n]? with
    | none, _ => r.no 13 (2 - n)
    | some c, some d => if c = d then r else r.no 12 (2 - n)
    | some _, none => r)
def Rd.code (s : List UInt8) (r : Rd) : Code × Rd :=
  let a := r.num s 2
  let t := a.2.text s a.1
  let n := t.2.num s 1
  let o := n.2.opsL s n.1
  let m := o.2.num s 2
  let h := m.2.hansL s m.1
  let k := h.2.num s 2
  let f := k.2.funsL s k.1
  (⟨t.1, o.1, h.1, f.1⟩, if f.2.fk = 0 ∧ f.2.pos < s.length then f.2.no 13 f.2.pos else f.2)
/-- What Decode answers: a code, or a fault's kind and place. -/
def dec (s : List UInt8) : Code × Nat × Nat :=
  if 4000000 < s.length then (⟨[], [], [], []⟩, 1, 0)
  else
    let q := (Rd.head s 3 ⟨3, 0, 0⟩).code s
    if q.2.fk = 0 then (q.1, 0, 0) else (⟨[], [], [], []⟩, q.2.fk, q.2.fa)

/-- Nothing has been at fault, and this is left. -/
def Good (s : List UInt8) (r : Rd) (l : List UInt8) : Prop := r.fk = 0 ∧ s.drop r.pos = l ∧ r.pos ≤ s.length
def Rd.adv (r : Rd) (n : Nat) : Rd := ⟨r.pos + n, r.fk, r.fa⟩
theorem Good.adv {s : List UInt8} {r : Rd} {l k : List UInt8} (h : Good s r (l ++ k)) : Good s (r.adv l.length) k ∧ r.has s l.length := by
  obtain ⟨h1, h2, h3⟩ := h
  have hl := congrArg List.length h2
  simp only [List.length_drop, List.length_append] at hl
  refine ⟨⟨h1, ?_, ?_⟩, h1, by omega⟩
  · show s.drop (r.pos + l.length) = k
    rw [← List.drop_drop, h2, List.drop_left]
  · show r.pos + l.length ≤ s.length
    omega
theorem Good.num {s : List UInt8} {r : Rd} {l k : List UInt8} (h : Good s r (l ++ k)) {n : Nat} (hn : l.length = n) : r.num s n = (Cd.num l, r.adv n) ∧ Good s (r.adv n) k := by
  subst hn
  obtain ⟨h1, h2⟩ := h.adv
  refine ⟨?_, h1⟩
  rw [Rd.num, if_pos h2, h.2.1, List.take_left]
  rfl
theorem Good.text {s : List UInt8} {r : Rd} {l k : List UInt8} (h : Good s r (l ++ k)) {n : Nat} (hn : l.length = n) : r.text s n = (l, r.adv n) ∧ Good s (r.adv n) k := by
  subst hn
  obtain ⟨h1, h2⟩ := h.adv
  refine ⟨?_, h1⟩
  rw [Rd.text, if_pos h2, h.2.1, List.take_left]
  rfl
theorem Good.big {s : List UInt8} {r : Rd} {v : Int} {k : List UInt8} {n : Nat} (h : Good s r (big v n ++ k)) (h0 : 0 ≤ v) (h1 : v < (256 ^ n : Int)) : r.num s n = (v.toNat, r.adv n) ∧ Good s (r.adv n) k := by
  obtain ⟨e, g⟩ := h.num (big_length n v)
  refine ⟨?_, g⟩
  rw [e]
  have := num_big_fits h0 h1
  congr 1
  omega
theorem Good.flag {s : List UInt8} {r : Rd} {b : Bool} {k : List UInt8} (h : Good s r (Cd.flag b ++ k)) : r.flag s = (b, r.adv 1) ∧ Good s (r.adv 1) k := by
  obtain ⟨e, g⟩ := h.num (flag_length b)
  refine ⟨?_, g⟩
  rw [Rd.flag, e]
  cases b <;> simp [Cd.flag, Cd.num]
theorem Good.low {s : List UInt8} {r : Rd} {v : Int} {k : List UInt8} (h : Good s r (Cd.low v :: k)) (h0 : 0 ≤ v) (h1 : v < 256) : r.num s 1 = (v.toNat, r.adv 1) ∧ Good s (r.adv 1) k := by
  have : Cd.low v :: k = Cd.big v 1 ++ k := by simp [Cd.big]
  rw [this] at h
  exact h.big h0 (by simpa using h1)

theorem ins_back {s : List UInt8} {r : Rd} {x : Ins} {k : List UInt8} (h : Good s r (insB x ++ k)) (hx : insOk x = true) (hr : -9223372036854775808 ≤ x.n ∧ x.n ≤ 9223372036854775807) : (r.ins s).1 = x ∧ Good s (r.ins s).2 k := by
  obtain ⟨op, a, b, n⟩ := x
  unfold insOk at hx
  simp only [Bool.and_eq_true, Bool.or_eq_true, beq_iff_eq] at hx
  obtain ⟨⟨⟨⟨⟨h1, h2⟩, h3⟩, h4⟩, h5⟩, h6⟩ := hx
  simp only [fits, Bool.and_eq_true, decide_eq_true_eq] at h1 h5 h6
  unfold insB at h
  dsimp only at h h2 h3 h4 hr
  rw [List.cons_append] at h
  obtain ⟨e1, g1⟩ := h.low (by omega) (by omega)
  have hop : ((op.toNat : Nat) : Int) = op := by omega
  unfold Rd.ins
  rw [e1]
  dsimp only
  rw [if_neg (by omega), hop]
  by_cases f8 : form op = 8
  · rw [if_pos f8] at g1 ⊢
    have ha : a = 0 := by simpa [f8] using h3
    have hb : b = 0 := by simpa [f8] using h4
    obtain ⟨e2, g2⟩ := g1.num (big_length 8 n)
    rw [e2]
    refine ⟨?_, g2⟩
    have hnb := num_big 8 n
    have hsg : sgn (num (big n 8)) = n := by
      unfold sgn
      have : (256 ^ 8 : Int) = 18446744073709551616 := by decide
      rw [this] at hnb
      split <;> omega
    rw [ha, hb]
    simp [hsg]
  · rw [if_neg f8] at g1 ⊢
    have hn : n = 0 := by simpa [f8] using h2
    by_cases f1 : form op = 1
    · rw [if_pos f1] at g1 ⊢
      have hb : b = 0 := by simpa [f1] using h4
      obtain ⟨e2, g2⟩ := g1.big (by omega) (by simp; omega)
      rw [e2]
      refine ⟨?_, g2⟩
      rw [hb, hn]
      simp
      omega
    · rw [if_neg f1] at g1 ⊢
      by_cases f2 : form op = 2
      · rw [if_pos f2, List.append_assoc] at g1
        rw [if_pos f2]
        obtain ⟨e2, g2⟩ := g1.big (by omega) (by simp; omega)
        obtain ⟨e3, g3⟩ := g2.big (by omega) (by simp; omega)
        rw [e2]
        dsimp only
        rw [e3]
        refine ⟨?_, g3⟩
        rw [hn]
        simp
        omega
      · rw [if_neg f2] at g1 ⊢
        have ha : a = 0 := by simpa [f1, f2] using h3
        have hb : b = 0 := by simpa [f2] using h4
        refine ⟨?_, by simpa using g1⟩
        rw [ha, hb, hn]

theorem Good.nil {s : List UInt8} {r : Rd} {k : List UInt8} (h : Good s r k) : r.fk = 0 := h.1
theorem ops_back {s : List UInt8} {k : List UInt8} : ∀ (l : List Op) (r : Rd), Good s r (l.flatMap opB ++ k) → (∀ o ∈ l, opOk o = true) → (r.opsL s l.length).1 = l ∧ Good s (r.opsL s l.length).2 k
  | [], r, h, _ => ⟨rfl, h⟩
  | o :: l, r, h, ho => by
    have h20 : o.name.length ≤ 20 := by simpa [opOk] using ho o (by simp)
    simp only [List.flatMap_cons, opB, List.append_assoc] at h
    obtain ⟨e1, g1⟩ := h.big (by omega) (by simp; omega)
    obtain ⟨e2, g2⟩ := g1.text rfl
    obtain ⟨e3, g3⟩ := g2.flag
    obtain ⟨i1, i2⟩ := ops_back l _ g3 (fun x hx => ho x (by simp [hx]))
    simp only [List.length_cons, Rd.opsL, if_pos h.1, e1, Int.toNat_natCast, if_neg (show ¬ 20 < o.name.length by omega), e2, e3]
    exact ⟨by rw [i1], i2⟩
theorem ints_back {s : List UInt8} {k : List UInt8} : ∀ (l : List Int) (r : Rd), Good s r (l.map Cd.low ++ k) → (∀ x ∈ l, fits x 255 = true) → (r.intsL s l.length).1 = l ∧ Good s (r.intsL s l.length).2 k
  | [], r, h, _ => ⟨rfl, h⟩
  | x :: l, r, h, ho => by
    have hx : 0 ≤ x ∧ x ≤ 255 := by simpa [fits] using ho x (by simp)
    simp only [List.map_cons, List.cons_append] at h
    obtain ⟨e1, g1⟩ := h.low (by omega) (by omega)
    obtain ⟨i1, i2⟩ := ints_back l _ g1 (fun x hx => ho x (by simp [hx]))
    simp only [List.length_cons, Rd.intsL, if_pos h.1, e1]
    exact ⟨by rw [i1]; congr 1; omega, i2⟩
theorem han_back {s : List UInt8} {k : List UInt8} {o : Han} {r : Rd} (h : Good s r (hanB o ++ k)) (ho : hanOk o = true) : (r.han s).1 = o ∧ Good s (r.han s).2 k := by
  unfold hanOk at ho
  simp only [Bool.and_eq_true, decide_eq_true_eq, List.all_eq_true] at ho
  simp only [hanB, List.append_assoc] at h
  obtain ⟨e1, g1⟩ := h.flag
  obtain ⟨e2, g2⟩ := g1.big (by omega) (by simp; omega)
  obtain ⟨i1, i2⟩ := ints_back o.ops _ g2 ho.2
  simp only [Rd.han, e1, e2, Int.toNat_natCast]
  exact ⟨by rw [i1], i2⟩
theorem hans_back {s : List UInt8} {k : List UInt8} : ∀ (l : List Han) (r : Rd), Good s r (l.flatMap hanB ++ k) → (∀ o ∈ l, hanOk o = true) → (r.hansL s l.length).1 = l ∧ Good s (r.hansL s l.length).2 k
  | [], r, h, _ => ⟨rfl, h⟩
  | o :: l, r, h, ho => by
    simp only [List.flatMap_cons, List.append_assoc] at h
    obtain ⟨e1, g1⟩ := han_back h (ho o (by simp))
    obtain ⟨i1, i2⟩ := hans_back l _ g1 (fun x hx => ho x (by simp [hx]))
    simp only [List.length_cons, Rd.hansL, if_pos h.1]
    exact ⟨by rw [i1, e1], i2⟩
theorem inss_back {s : List UInt8} {k : List UInt8} : ∀ (l : List Ins) (r : Rd), Good s r (l.flatMap insB ++ k) → (∀ o ∈ l, insOk o = true) → (∀ o ∈ l, -9223372036854775808 ≤ o.n ∧ o.n ≤ 9223372036854775807) → (r.insL s l.length).1 = l ∧ Good s (r.insL s l.length).2 k
  | [], r, h, _, _ => ⟨rfl, h⟩
  | o :: l, r, h, ho, hr => by
    simp only [List.flatMap_cons, List.append_assoc] at h
    obtain ⟨e1, g1⟩ := ins_back h (ho o (by simp)) (hr o (by simp))
    obtain ⟨i1, i2⟩ := inss_back l _ g1 (fun x hx => ho x (by simp [hx])) (fun x hx => hr x (by simp [hx]))
    simp only [List.length_cons, Rd.insL, if_pos h.1]
    exact ⟨by rw [i1, e1], i2⟩
theorem fn_back {s : List UInt8} {k : List UInt8} {o : Fun} {r : Rd} (h : Good s r (funB o ++ k)) (ho : funOk o = true) (hr : ∀ x ∈ o.ins, -9223372036854775808 ≤ x.n ∧ x.n ≤ 9223372036854775807) : (r.fn s).1 = o ∧ Good s (r.fn s).2 k := by
  unfold funOk at ho
  simp only [Bool.and_eq_true, decide_eq_true_eq, List.all_eq_true, fits] at ho
  obtain ⟨⟨⟨⟨a0, a1⟩, b0, b1⟩, c1⟩, d1⟩ := ho
  simp only [funB, List.append_assoc] at h
  obtain ⟨e1, g1⟩ := h.big a0 (by simp; omega)
  obtain ⟨e2, g2⟩ := g1.big b0 (by simp; omega)
  obtain ⟨e3, g3⟩ := g2.big (by omega) (by simp; omega)
  obtain ⟨i1, i2⟩ := inss_back o.ins _ g3 d1 hr
  simp only [Rd.fn, e1, e2, e3, Int.toNat_natCast]
  refine ⟨?_, i2⟩
  rw [i1]
  have f1 : ((o.free.toNat : Nat) : Int) = o.free := by omega
  have f2 : ((o.slots.toNat : Nat) : Int) = o.slots := by omega
  rw [f1, f2]
theorem funs_back {s : List UInt8} {k : List UInt8} : ∀ (l : List Fun) (r : Rd), Good s r (l.flatMap funB ++ k) → (∀ o ∈ l, funOk o = true) → (∀ f ∈ l, ∀ x ∈ f.ins, -9223372036854775808 ≤ x.n ∧ x.n ≤ 9223372036854775807) → (r.funsL s l.length).1 = l ∧ Good s (r.funsL s l.length).2 k
  | [], r, h, _, _ => ⟨rfl, h⟩
  | o :: l, r, h, ho, hr => by
    simp only [List.flatMap_cons, List.append_assoc] at h
    obtain ⟨e1, g1⟩ := fn_back h (ho o (by simp)) (hr o (by simp))
    obtain ⟨i1, i2⟩ := funs_back l _ g1 (fun x hx => ho x (by simp [hx])) (fun x hx => hr x (by simp [hx]))
    simp only [List.length_cons, Rd.funsL, if_pos h.1]
    exact ⟨by rw [i1, e1], i2⟩

/-- What is written is read as the same code. -/
theorem dec_bytes {C : Code} (h : ok C = true) (hl : (bytes C).length ≤ 4000000) (hr : ∀ f ∈ C.funs, ∀ x ∈ f.ins, -9223372036854775808 ≤ x.n ∧ x.n ≤ 9223372036854775807) : dec (bytes C) = (C, 0, 0) := by
  unfold ok counts at h
  simp only [Bool.and_eq_true, decide_eq_true_eq, List.all_eq_true] at h
  obtain ⟨⟨⟨⟨⟨⟨c0, c1⟩, c2⟩, c3⟩, o1⟩, o2⟩, o3⟩ := h
  have hb : bytes C = Cd.head ++ (big C.shape.length 2 ++ (C.shape ++ (big C.ops.length 1 ++ (C.ops.flatMap opB ++ (big C.hans.length 2 ++ (C.hans.flatMap hanB ++ (big C.funs.length 2 ++ (C.funs.flatMap funB ++ [])))))))) := by simp [bytes]
  have h0 : Rd.head (bytes C) 3 ⟨3, 0, 0⟩ = ⟨3, 0, 0⟩ := by
    rw [hb]
    simp [Rd.head, Cd.head]
  have g0 : Good (bytes C) ⟨3, 0, 0⟩ (big C.shape.length 2 ++ (C.shape ++ (big C.ops.length 1 ++ (C.ops.flatMap opB ++ (big C.hans.length 2 ++ (C.hans.flatMap hanB ++ (big C.funs.length 2 ++ (C.funs.flatMap funB ++ [])))))))) := by
    refine ⟨rfl, ?_, ?_⟩
    · rw [hb]; rfl
    · rw [hb]; simp [Cd.head]
  unfold dec
  rw [if_neg (by omega), h0]
  generalize bytes C = s at g0 hl
  obtain ⟨e1, g1⟩ := g0.big (by omega) (by simp; omega)
  obtain ⟨e2, g2⟩ := g1.text rfl
  obtain ⟨e3, g3⟩ := g2.big (by omega) (by simp; omega)
  obtain ⟨i4, g4⟩ := ops_back C.ops _ g3 o1
  obtain ⟨e5, g5⟩ := g4.big (by omega) (by simp; omega)
  obtain ⟨i6, g6⟩ := hans_back C.hans _ g5 o2
  obtain ⟨e7, g7⟩ := g6.big (by omega) (by simp; omega)
  obtain ⟨i8, g8⟩ := funs_back C.funs _ g7 o3 hr
  have hend : ¬ ((Rd.funsL s C.funs.length (Rd.adv (Rd.hansL s C.hans.length (Rd.adv (Rd.opsL s C.ops.length (Rd.adv (Rd.adv (Rd.adv ⟨3, 0, 0⟩ 2) C.shape.length) 1)).2 2)).2 2)).2.pos < s.length) := by
    have := congrArg List.length g8.2.1
    simp only [List.length_drop, List.length_nil] at this
    omega
  simp only [Rd.code, e1, e2, e3, e5, e7, Int.toNat_natCast]
  simp only [hend, and_false, if_false]
  rw [if_pos g8.1, i4, i6, i8]
end Cd
end Go.Proofs.YtpjbfdpblgjmfaaGreatDoor

namespace Go.Proofs.YtpjbfdpblgjmfaaGreatDoor
open Go.RowKit Go.Lib

def RInt : Rel Int := fun x cs _ _ => cs = [.int .i64 x]
def RIns : Rel Cd.Ins := fun x cs _ _ => cs = [.int .i64 x.op, .int .i64 x.a, .int .i64 x.b, .int .i64 x.n]
def ROp : Rel Cd.Op := fun x cs _ _ => cs = [.string ⟨x.name.toArray⟩, .bool x.once]
def RHan : Rel Cd.Han := fun x cs w D => ∃ va vn vc, cs = [.bool x.shallow, .slice va vn vc] ∧ LsM RInt 1 w D (.slice va vn vc) x.ops
def RFun : Rel Cd.Fun := fun x cs w D => ∃ va vn vc, cs = [.int .i64 x.free, .int .i64 x.slots, .slice va vn vc] ∧ LsM RIns 4 w D (.slice va vn vc) x.ins
theorem RInt.ok : Rel.Ok RInt 1 := ⟨fun x cs w D h => by subst h; simp [Value.oneCell'], fun x cs w w' D D' h _ _ => h⟩
theorem RIns.ok : Rel.Ok RIns 4 := ⟨fun x cs w D h => by subst h; simp [Value.oneCell'], fun x cs w w' D D' h _ _ => h⟩
theorem ROp.ok : Rel.Ok ROp 2 := ⟨fun x cs w D h => by subst h; simp [Value.oneCell'], fun x cs w w' D D' h _ _ => h⟩
theorem LsM.keep {α : Type} {R : Rel α} {size : Nat} {w w' : World} {D D' : Nat → Prop} {v : Value} {l : List α} (hR : Rel.Ok R size) (h : LsM R size w D v l) (hs : ∀ k, D k → w'.heap[k]? = w.heap[k]?) (hd : ∀ k, D k → D' k) : LsM R size w' D' v l := by
  obtain ⟨a, c, h1, h2, h3⟩ := h
  refine ⟨a, c, h1, h2, fun hne => ?_⟩
  obtain ⟨g, e, hg, h4⟩ := h3 hne
  refine ⟨g, e, hd g hg, fun i x hx => ?_⟩
  obtain ⟨cs, h5, h6⟩ := h4 i x hx
  refine ⟨cs, hR.2 x cs w w' D D' h5 hs hd, fun j u hj => ?_⟩
  rw [← h6 j u hj]
  simp only [World.cell?, hs g hg]
theorem RHan.ok : Rel.Ok RHan 2 := ⟨fun x cs w D h => by obtain ⟨va, vn, vc, rfl, _⟩ := h; simp [Value.oneCell'], fun x cs w w' D D' h hs hd => by
  obtain ⟨va, vn, vc, h1, h2⟩ := h
  exact ⟨va, vn, vc, h1, h2.keep RInt.ok hs hd⟩⟩
theorem RFun.ok : Rel.Ok RFun 3 := ⟨fun x cs w D h => by obtain ⟨va, vn, vc, rfl, _⟩ := h; simp [Value.oneCell'], fun x cs w w' D D' h hs hd => by
  obtain ⟨va, vn, vc, h1, h2⟩ := h
  exact ⟨va, vn, vc, h1, h2.keep RIns.ok hs hd⟩⟩
/-- Lists that are read are codes' lists in memory. -/
theorem LsM.ints {w : World} {D : Nat → Prop} {v : Value} {l : List Int} (h : LsM RInt 1 w D v l) : IntsM w v l := by
  obtain ⟨a, c, h1, h2, h3⟩ := h
  refine ⟨a, c, h1, h2, fun hne => ?_⟩
  obtain ⟨g, e, hg, h4⟩ := h3 hne
  refine ⟨g, 0, e, fun i x hx => ?_⟩
  obtain ⟨cs, rfl, h6⟩ := h4 i x hx
  simpa using h6 0 _ rfl
theorem LsM.inss {w : World} {D : Nat → Prop} {v : Value} {l : List Cd.Ins} (h : LsM RIns 4 w D v l) : InssM w v l := by
  obtain ⟨a, c, h1, h2, h3⟩ := h
  refine ⟨a, c, h1, h2, fun hne => ?_⟩
  obtain ⟨g, e, hg, h4⟩ := h3 hne
  refine ⟨g, 0, e, fun i x hx => ?_⟩
  obtain ⟨cs, rfl, h6⟩ := h4 i x hx
  refine ⟨?_, ?_, ?_, ?_⟩
  · simpa using h6 0 _ rfl
  · simpa using h6 1 _ rfl
  · simpa using h6 2 _ rfl
  · simpa using h6 3 _ rfl
theorem LsM.ops {w : World} {D : Nat → Prop} {v : Value} {l : List Cd.Op} (h : LsM ROp 2 w D v l) : OpsM w v l := by
  obtain ⟨a, c, h1, h2, h3⟩ := h
  refine ⟨a, c, h1, h2, fun hne => ?_⟩
  obtain ⟨g, e, hg, h4⟩ := h3 hne
  refine ⟨g, 0, e, fun i x hx => ?_⟩
  obtain ⟨cs, rfl, h6⟩ := h4 i x hx
  refine ⟨?_, ?_⟩
  · simpa using h6 0 _ rfl
  · simpa using h6 1 _ rfl
theorem LsM.hans {w : World} {D : Nat → Prop} {v : Value} {l : List Cd.Han} (h : LsM RHan 2 w D v l) : HansM w v l := by
  obtain ⟨a, c, h1, h2, h3⟩ := h
  refine ⟨a, c, h1, h2, fun hne => ?_⟩
  obtain ⟨g, e, hg, h4⟩ := h3 hne
  refine ⟨g, 0, e, fun i x hx => ?_⟩
  obtain ⟨cs, ⟨va, vn, vc, rfl, h5⟩, h6⟩ := h4 i x hx
  refine ⟨?_, _, ?_, h5.ints⟩
  · simpa using h6 0 _ rfl
  · simpa using h6 1 _ rfl
theorem LsM.funs {w : World} {D : Nat → Prop} {v : Value} {l : List Cd.Fun} (h : LsM RFun 3 w D v l) : FunsM w v l := by
  obtain ⟨a, c, h1, h2, h3⟩ := h
  refine ⟨a, c, h1, h2, fun hne => ?_⟩
  obtain ⟨g, e, hg, h4⟩ := h3 hne
  refine ⟨g, 0, e, fun i x hx => ?_⟩
  obtain ⟨cs, ⟨va, vn, vc, rfl, h5⟩, h6⟩ := h4 i x hx
  refine ⟨?_, ?_, _, ?_, h5.inss⟩
  · simpa using h6 0 _ rfl
  · simpa using h6 1 _ rfl
  · simpa using h6 2 _ rfl

/- A reader at fault stays as it is. -/
theorem bad_num' {s : List UInt8} {n : Nat} {r : Cd.Rd} (h : r.fk ≠ 0) : r.num s n = (0, r) := by
  unfold Cd.Rd.num
  rw [if_neg (fun e => h e.1)]
  simp [Cd.Rd.no, h]
theorem bad_text {s : List UInt8} {n : Nat} {r : Cd.Rd} (h : r.fk ≠ 0) : r.text s n = ([], r) := by
  unfold Cd.Rd.text
  rw [if_neg (fun e => h e.1)]
  simp [Cd.Rd.no, h]
theorem bad_flag {s : List UInt8} {r : Cd.Rd} (h : r.fk ≠ 0) : r.flag s = (false, r) := by
  unfold Cd.Rd.flag
  rw [bad_num' h]
  rfl
def gInt (s : List UInt8) (r : Cd.Rd) : Int × Cd.Rd := (((r.num s 1).1 : Int), (r.num s 1).2)
def gOp (s : List UInt8) (r : Cd.Rd) : Cd.Op × Cd.Rd := (⟨(Cd.Rd.txt s 1 20 r).1, ((Cd.Rd.txt s 1 20 r).2.flag s).1⟩, ((Cd.Rd.txt s 1 20 r).2.flag s).2)
theorem flag_fa (s : List UInt8) (p : Nat) (h : (Cd.Rd.flag s (Cd.Rd.at_ p)).2.fk = 0) : (Cd.Rd.flag s (Cd.Rd.at_ p)).2 = Cd.Rd.at_ (p + 1) := by
  unfold Cd.Rd.flag at h ⊢
  by_cases hn : (Cd.Rd.num s 1 (Cd.Rd.at_ p)).2.fk = 0
  · have e := num_fa s 1 p hn
    dsimp only at h ⊢
    rw [e] at h ⊢
    split
    · rename_i h2
      rw [if_pos h2] at h
      simp [Cd.Rd.no, Cd.Rd.at_] at h
    · rfl
  · have e := num_bad s 1 p hn
    rw [e] at h ⊢
    simp at h
theorem text_fa (s : List UInt8) (n p : Nat) (h : (Cd.Rd.text s n (Cd.Rd.at_ p)).2.fk = 0) : (Cd.Rd.text s n (Cd.Rd.at_ p)).2 = Cd.Rd.at_ (p + n) := by
  unfold Cd.Rd.text Cd.Rd.no Cd.Rd.at_ at h ⊢
  split
  · rfl
  · rename_i h2
    rw [if_neg h2] at h
    simp at h
theorem txt_fa (s : List UInt8) (size most p : Nat) (h : (Cd.Rd.txt s size most (Cd.Rd.at_ p)).2.fk = 0) : (Cd.Rd.txt s size most (Cd.Rd.at_ p)).2 = Cd.Rd.at_ (Cd.Rd.txt s size most (Cd.Rd.at_ p)).2.pos := by
  unfold Cd.Rd.txt at h ⊢
  by_cases hn : (Cd.Rd.num s size (Cd.Rd.at_ p)).2.fk = 0
  · have e := num_fa s size p hn
    dsimp only at h ⊢
    rw [e] at h ⊢
    by_cases hm : most < (Cd.Rd.num s size (Cd.Rd.at_ p)).1
    · rw [if_pos hm] at h ⊢
      rw [bad_text (by simp [Cd.Rd.no, Cd.Rd.at_])] at h
      simp [Cd.Rd.no, Cd.Rd.at_] at h
    · rw [if_neg hm] at h ⊢
      have := text_fa s _ _ h
      rw [this]
      rfl
  · have e := num_bad s size p hn
    rw [e] at h ⊢
    dsimp only at h
    rw [if_neg (by omega), bad_text (by simp)] at h
    simp at h
theorem flag_pos (s : List UInt8) (p : Nat) (hp : p ≤ s.length) : (Cd.Rd.flag s (Cd.Rd.at_ p)).2.pos ≤ s.length := by
  have := num_le s 1 p hp
  unfold Cd.Rd.flag
  dsimp only
  split
  · unfold Cd.Rd.no
    split <;> exact this
  · exact this
theorem txt_pos (s : List UInt8) (size most p : Nat) (hp : p ≤ s.length) : (Cd.Rd.txt s size most (Cd.Rd.at_ p)).2.pos ≤ s.length := by
  have h1 := num_le s size p hp
  unfold Cd.Rd.txt
  by_cases hn : (Cd.Rd.num s size (Cd.Rd.at_ p)).2.fk = 0
  · have e := num_fa s size p hn
    rw [e] at h1
    dsimp only
    rw [e]
    by_cases hm : most < (Cd.Rd.num s size (Cd.Rd.at_ p)).1
    · rw [if_pos hm, bad_text (by simp [Cd.Rd.no, Cd.Rd.at_])]
      simp [Cd.Rd.no, Cd.Rd.at_]
      exact h1
    · rw [if_neg hm]
      exact text_le s _ _ h1
  · have e := num_bad s size p hn
    rw [e]
    dsimp only
    rw [if_neg (by omega), bad_text (by simp)]
    exact hp

set_option maxHeartbeats 2000000 in
theorem each_int (W : World) (b : Nat) (s : List UInt8) (q cB : Nat) (h : PM W b s q) (hs : s.length ≤ 4000000) (hq : q ≤ s.length) (hc : W.cell? ⟨cB, 0, none⟩ = some (.pointer (some ⟨b, 0, none⟩))) :
    Calls Tryz.prog 88 #[.pointer (some ⟨cB, 0, none⟩)] W (EPost RInt (fun cs => ∃ a : Int, cs = [.int .i64 a]) (fun cs => cs.headD undef) b s W (gInt s (Cd.Rd.at_ q))) := by
  have HN := hid (number_c W b s q 1 h hs hq (by omega))
  have hlt := Cd.num_one_lt s (Cd.Rd.at_ q)
  have HS : Hid (Cd.sgn (Cd.Rd.num s 1 (Cd.Rd.at_ q)).1 = ((Cd.Rd.num s 1 (Cd.Rd.at_ q)).1 : Int)) := Cd.sgn_small (by omega)
  rw [HS.out] at HN
  unfold NmPost at HN
  have hok := hid (num_fa s 1 q)
  have hle := num_le s 1 q hq
  have HG : Hid (gInt s (Cd.Rd.at_ q) = (((Cd.Rd.num s 1 (Cd.Rd.at_ q)).1 : Int), (Cd.Rd.num s 1 (Cd.Rd.at_ q)).2)) := rfl
  clear h HS
  generalize Cd.Rd.num s 1 (Cd.Rd.at_ q) = vr at HN hok HG hle hlt
  obtain ⟨v, r⟩ := vr
  dsimp only at HN hok HG hle hlt
  unfold ptrV at HN
  go_enter Tryz.func88, Tryz.ntmps88
  go_wp2_with (first
    | (go_at_call 83; refine HN.out.mono ?_; clear HN; rintro en w1 ⟨rfl, h1, hg1⟩
       generalize hev : errV r = ev
       replace hev := hid hev
       replace h1 := hid h1
       replace hg1 := hid hg1)
    | go_in)
  rw [HG.out]
  refine bodyPost_ret (v := .tuple #[.int .i64 v, ev]) (by simp [results, Tryz.results88, go_sem]) rfl ⟨[.int .i64 v], ⟨_, rfl⟩, by rw [← hev.out]; rfl, h1.out, hg1.out, hle, fun hr => ⟨by rw [hok.out hr]; rfl, fun _ => False, rfl, fun k hk => hk.elim⟩⟩
end Go.Proofs.YtpjbfdpblgjmfaaGreatDoor

namespace Go.Proofs.YtpjbfdpblgjmfaaGreatDoor
open Go.RowKit Go.Lib

theorem grown_newc {w w' : World} {b k i : Nat} {v : Value} (h : w.grownBy w' (some b)) (hk : w.heap.size ≤ k) : w.grownBy (w'.setCell ⟨k, i, none⟩ v) (some b) :=
  ⟨h.os, h.tape, h.output, by have := h.size; simpa using this, fun j hj hne => (Below.heap_setCell w' _ _ j (by dsimp only; omega)).trans (h.block j hj hne)⟩
theorem PM.far {w : World} {b k i : Nat} {s : List UInt8} {p : Nat} {v : Value} (h : PM w b s p) (hk : b ≠ k) : PM (w.setCell ⟨k, i, none⟩ v) b s p := blk_other h hk
theorem PM.al {w : World} {b : Nat} {s : List UInt8} {p : Nat} (h : PM w b s p) (o : Obj) : PM (w.alloc o) b s p := blk_alloc h
def OpnPost (b : Nat) (s : List UInt8) (W : World) := EPost ROp (fun cs => ∃ (t : List UInt8) (o : Bool), cs = [.string ⟨t.toArray⟩, .bool o]) (fun cs => .agg cs.toArray) b s W
theorem opn_fin {b : Nat} {s : List UInt8} {W w' : World} {q : Cd.Op × Cd.Rd} {a' : Act} {oB : Nat} {t : List UInt8} {o : Bool} {ev : Value} (hd : a'.defers = []) (h2 : a'.tmps[2]? = some (.pointer (some ⟨oB, 0, none⟩))) (h3 : a'.tmps[3]? = some ev) (hB : w'.heap[oB]? = some (.cells #[.string ⟨t.toArray⟩, .bool o] 119 (0, 0))) (hev : errV q.2 = ev) (hp : PM w' b s q.2.pos) (hg : W.grownBy w' (some b)) (hq : q.2.pos ≤ s.length) (hr : q.2.fk = 0 → q.2.fa = 0 ∧ q.1 = ⟨t, o⟩) : bodyPost Tryz.prog Tryz.f51 (OpnPost b s W q) .ret a' w' := by
  have c0 : w'.cell? ⟨oB, 0, none⟩ = some (.string ⟨t.toArray⟩) := by simp [World.cell?, hB]
  have c1 : w'.cell? ⟨oB, 1, none⟩ = some (.bool o) := by simp [World.cell?, hB]
  refine bodyPost_ret (v := .tuple #[.agg #[.string ⟨t.toArray⟩, .bool o], ev]) ?_ hd ⟨[.string ⟨t.toArray⟩, .bool o], ⟨t, o, rfl⟩, by rw [hev], hp, hg, hq, fun h => ⟨(hr h).1, fun _ => False, by rw [(hr h).2]; rfl, fun k hk => hk.elim⟩⟩
  simp [results, Tryz.results51, go_sem, h2, h3, c0, c1]

set_option maxRecDepth 100000 in
set_option maxHeartbeats 4000000 in
theorem operation_c (W : World) (b : Nat) (s : List UInt8) (q : Nat) (h : PM W b s q) (hs : s.length ≤ 4000000) (hq : q ≤ s.length) :
    Calls Tryz.prog 51 #[.pointer (some ⟨b, 0, none⟩)] W (OpnPost b s W (gOp s (Cd.Rd.at_ q))) := by
  have hbl := h.lt
  have HT := hid (dtext_c (W.alloc (.cells #[.string ⟨#[]⟩, .bool false] 119)) b s q 1 20 (h.al _) hs hq (by omega) (by omega))
  have hok := hid (txt_fa s 1 20 q)
  have hle := txt_pos s 1 20 q hq
  have HG : Hid (gOp s (Cd.Rd.at_ q) = (⟨(Cd.Rd.txt s 1 20 (Cd.Rd.at_ q)).1, ((Cd.Rd.txt s 1 20 (Cd.Rd.at_ q)).2.flag s).1⟩, ((Cd.Rd.txt s 1 20 (Cd.Rd.at_ q)).2.flag s).2)) := rfl
  have hB0 : (W.alloc (.cells #[.string ⟨#[]⟩, .bool false] 119)).heap[W.heap.size]? = some (.cells #[.string ⟨([] : List UInt8).toArray⟩, .bool false] 119 (0, 0)) := World.alloc_heap_new W _
  clear h
  generalize Cd.Rd.txt s 1 20 (Cd.Rd.at_ q) = tr at HT hok hle HG
  obtain ⟨t, r⟩ := tr
  dsimp only at HT hok hle HG
  unfold ptrV TkPost at HT
  by_cases hr : r.fk = 0
  · have hrd := hok.out hr
    rw [errV_ok hr] at HT
    have HF := hid (fun (V : World) (hv : PM V b s r.pos) => dflag_c V b s r.pos hv hs hle)
    rw [← hrd] at HF
    have hfa := flag_fa s r.pos
    have hfp := flag_pos s r.pos hle
    rw [← hrd] at hfa hfp
    generalize Cd.Rd.flag s r = fr at HF HG hfa hfp
    obtain ⟨o, r2⟩ := fr
    dsimp only at HF HG hfa hfp
    have HFa := hid hfa
    clear hfa
    unfold ptrV at HF
    go_enter Tryz.func51, Tryz.ntmps51
    go_wp2_with (first
      | (go_at_call 49; refine HT.out.mono ?_; clear HT; rintro en w1 ⟨rfl, h1, hg1⟩
         have hB1 := (hg1.block W.heap.size (by simp) (by simp; omega)).trans hB0
         have k0 : w1.cell? ⟨W.heap.size, 0, none⟩ = some (.string ⟨#[]⟩) := by simp [World.cell?, hB1]
         have k1 : w1.cell? ⟨W.heap.size, 1, none⟩ = some (.bool false) := by simp [World.cell?, hB1]
         have kf : ∀ i, w1.frozen? ⟨W.heap.size, i, none⟩ = false := fun i => by simp [World.frozen?, hB1]
         replace h1 := hid h1
         replace hg1 := hid (grown_trans (grown_alloc (grown_refl W (some b)) _) hg1)
         replace hB1 := hid (blk_set (i := 0) (v := .string ⟨t.toArray⟩) hB1))
      | (go_at_call 86; refine (HF.out _ (h1.out.far (by omega))).mono ?_; clear HF; rintro en w2 ⟨rfl, h2, hg2⟩
         have hB2 := (hg2.block W.heap.size (Array.getElem?_eq_some_iff.1 hB1.out).1 (by simp; omega)).trans hB1.out
         have j0 : w2.cell? ⟨W.heap.size, 0, none⟩ = some (.string ⟨t.toArray⟩) := by simp [World.cell?, hB2]
         have j1 : w2.cell? ⟨W.heap.size, 1, none⟩ = some (.bool false) := by simp [World.cell?, hB2]
         have jf : ∀ i, w2.frozen? ⟨W.heap.size, i, none⟩ = false := fun i => by simp [World.frozen?, hB2]
         generalize hev : errV r2 = ev
         replace hev := hid hev
         replace h2 := hid h2
         replace hg2 := hid (grown_trans (grown_newc hg1.out (Nat.le_refl _)) hg2)
         replace hB2 := hid hB2)
      | go_in)
    rw [HG.out]
    refine opn_fin (t := t) (o := o) rfl rfl rfl ?_ hev.out (((h2.out.far (by omega)).far (by omega)).far (by omega)) (grown_newc (grown_newc (grown_newc hg2.out (Nat.le_refl _)) (Nat.le_refl _)) (Nat.le_refl _)) hfp (fun h => ⟨by rw [HFa.out h]; rfl, rfl⟩)
    exact blk_set (blk_set (blk_set hB2.out))
  · rw [errV_no hr] at HT
    rw [bad_flag hr] at HG
    go_enter Tryz.func51, Tryz.ntmps51
    go_wp2_with (first
      | (go_at_call 49; refine HT.out.mono ?_; clear HT; rintro en w1 ⟨rfl, h1, hg1⟩
         have hB1 := (hg1.block W.heap.size (by simp) (by simp; omega)).trans hB0
         have k0 : w1.cell? ⟨W.heap.size, 0, none⟩ = some (.string ⟨#[]⟩) := by simp [World.cell?, hB1]
         have k1 : w1.cell? ⟨W.heap.size, 1, none⟩ = some (.bool false) := by simp [World.cell?, hB1]
         have kf : ∀ i, w1.frozen? ⟨W.heap.size, i, none⟩ = false := fun i => by simp [World.frozen?, hB1]
         replace h1 := hid h1
         replace hg1 := hid (grown_trans (grown_alloc (grown_refl W (some b)) _) hg1)
         replace hB1 := hid hB1)
      | go_in)
    rw [HG.out]
    refine opn_fin (t := t) (o := false) rfl rfl rfl ?_ (errV_no hr) (((h1.out.far (by omega)).far (by omega)).far (by omega)) (grown_newc (grown_newc (grown_newc hg1.out (Nat.le_refl _)) (Nat.le_refl _)) (Nat.le_refl _)) hle (fun h => absurd h hr)
    exact blk_set (blk_set (blk_set hB1.out))
end Go.Proofs.YtpjbfdpblgjmfaaGreatDoor

namespace Go.Proofs.YtpjbfdpblgjmfaaGreatDoor
open Go.RowKit Go.Lib

theorem ints_many (s : List UInt8) : ∀ (n : Nat) (r : Cd.Rd), Cd.Rd.intsL s n r = Cd.Rd.manyL (gInt s) n r
  | 0, _ => rfl
  | n + 1, r => by
    unfold Cd.Rd.intsL Cd.Rd.manyL
    by_cases h : r.fk = 0
    · rw [if_pos h, if_pos h]
      dsimp only
      rw [ints_many s n]
      rfl
    · rw [if_neg h, if_neg h]
def HanPost (b : Nat) (s : List UInt8) (W : World) := EPost RHan (fun cs => ∃ (o : Bool) (va : Option Addr) (vn vc : Nat), cs = [.bool o, .slice va vn vc]) (fun cs => .agg cs.toArray) b s W
theorem han_fin {b : Nat} {s : List UInt8} {W w' : World} {q : Cd.Han × Cd.Rd} {a' : Act} {oB : Nat} {o : Bool} {va : Option Addr} {vn vc : Nat} {ev : Value} (hd : a'.defers = []) (h2 : a'.tmps[2]? = some (.pointer (some ⟨oB, 0, none⟩))) (h3 : a'.tmps[3]? = some ev) (hB : w'.heap[oB]? = some (.cells #[.bool o, .slice va vn vc] 121 (0, 0))) (hev : errV q.2 = ev) (hp : PM w' b s q.2.pos) (hg : W.grownBy w' (some b)) (hq : q.2.pos ≤ s.length) (hr : q.2.fk = 0 → q.2.fa = 0 ∧ q.1.shallow = o ∧ ∃ D, LsM RInt 1 w' D (.slice va vn vc) q.1.ops ∧ ∀ k, D k → W.heap.size ≤ k ∧ k < w'.heap.size ∧ k ≠ b) : bodyPost Tryz.prog Tryz.f53 (HanPost b s W q) .ret a' w' := by
  have c0 : w'.cell? ⟨oB, 0, none⟩ = some (.bool o) := by simp [World.cell?, hB]
  have c1 : w'.cell? ⟨oB, 1, none⟩ = some (.slice va vn vc) := by simp [World.cell?, hB]
  refine bodyPost_ret (v := .tuple #[.agg #[.bool o, .slice va vn vc], ev]) ?_ hd ⟨[.bool o, .slice va vn vc], ⟨o, va, vn, vc, rfl⟩, by rw [hev], hp, hg, hq, fun h => ?_⟩
  · simp [results, Tryz.results53, go_sem, h2, h3, c0, c1]
  · obtain ⟨h1, h2, D, h4, h5⟩ := hr h
    exact ⟨h1, D, ⟨va, vn, vc, by rw [h2], h4⟩, h5⟩
theorem set_same {w : World} {o k i j l : Nat} {x y z : Value} (h : k ≠ o) : (((w.setCell ⟨o, i, none⟩ x).setCell ⟨o, j, none⟩ y).setCell ⟨o, l, none⟩ z).heap[k]? = w.heap[k]? := by
  rw [Below.heap_setCell _ _ _ k (by dsimp only; omega), Below.heap_setCell _ _ _ k (by dsimp only; omega), Below.heap_setCell _ _ _ k (by dsimp only; omega)]

set_option maxRecDepth 100000 in
set_option maxHeartbeats 4000000 in
theorem dhandler_c (W : World) (b : Nat) (s : List UInt8) (q : Nat) (h : PM W b s q) (hs : s.length ≤ 4000000) (hq : q ≤ s.length) :
    Calls Tryz.prog 53 #[.pointer (some ⟨b, 0, none⟩)] W (HanPost b s W (Cd.Rd.han s (Cd.Rd.at_ q))) := by
  have hbl := h.lt
  have HT := hid (dflag_c ((W.alloc (.cells #[.pointer (some ⟨b, 0, none⟩)] 70)).alloc (.cells #[.bool false, .slice none 0 0] 121)) b s q ((h.al _).al _) hs hq)
  have hok := hid (flag_fa s q)
  have hle := flag_pos s q hq
  have HG : Hid (Cd.Rd.han s (Cd.Rd.at_ q) = (⟨(Cd.Rd.flag s (Cd.Rd.at_ q)).1, (Cd.Rd.manyL (gInt s) ((Cd.Rd.flag s (Cd.Rd.at_ q)).2.num s 1).1 ((Cd.Rd.flag s (Cd.Rd.at_ q)).2.num s 1).2).1⟩, (Cd.Rd.manyL (gInt s) ((Cd.Rd.flag s (Cd.Rd.at_ q)).2.num s 1).1 ((Cd.Rd.flag s (Cd.Rd.at_ q)).2.num s 1).2).2)) := by
    rw [Hid]
    unfold Cd.Rd.han
    dsimp only
    rw [ints_many]
  have hB0 : ((W.alloc (.cells #[.pointer (some ⟨b, 0, none⟩)] 70)).alloc (.cells #[.bool false, .slice none 0 0] 121)).heap[W.heap.size + 1]? = some (.cells #[.bool false, .slice none 0 0] 121 (0, 0)) := by
    have := World.alloc_heap_new (W.alloc (.cells #[.pointer (some ⟨b, 0, none⟩)] 70)) (.cells #[.bool false, .slice none 0 0] 121)
    rw [World.size_alloc] at this
    exact this
  have hC0 : ((W.alloc (.cells #[.pointer (some ⟨b, 0, none⟩)] 70)).alloc (.cells #[.bool false, .slice none 0 0] 121)).heap[W.heap.size]? = some (.cells #[.pointer (some ⟨b, 0, none⟩)] 70 (0, 0)) := blk_alloc (World.alloc_heap_new W _)
  clear h
  generalize Cd.Rd.flag s (Cd.Rd.at_ q) = tr at HT hok hle HG
  obtain ⟨t, r⟩ := tr
  dsimp only at HT hok hle HG
  unfold ptrV at HT
  by_cases hr : r.fk = 0
  · have hrd : r = Cd.Rd.at_ r.pos := by have := hok.out hr; rw [this]; rfl
    rw [errV_ok hr] at HT
    have HF := hid (fun (V : World) (hv : PM V b s r.pos) (hc : V.cell? ⟨W.heap.size, 0, none⟩ = some (.pointer (some ⟨b, 0, none⟩))) => list_int V b s r.pos 1 W.heap.size hc (by omega) RInt (gInt s) RInt.ok hv hs hle (by omega) (fun V2 q2 h2 hq2 hc2 => each_int V2 b s q2 W.heap.size h2 hs hq2 hc2))
    rw [← hrd] at HF
    generalize Cd.Rd.manyL (gInt s) (Cd.Rd.num s 1 r).1 (Cd.Rd.num s 1 r).2 = fr at HF HG
    obtain ⟨o, r2⟩ := fr
    dsimp only at HG
    unfold ptrV LPost at HF
    dsimp only at HF
    go_enter Tryz.func53, Tryz.ntmps53
    go_wp2_with (first
      | (go_at_call 86; refine HT.out.mono ?_; clear HT; rintro en w1 ⟨rfl, h1, hg1⟩
         have hB1 := (hg1.block (W.heap.size + 1) (by simp) (by simp; omega)).trans hB0
         have hC1 := (hg1.block W.heap.size (by simp; omega) (by simp; omega)).trans hC0
         have k0 : w1.cell? ⟨W.heap.size + 1, 0, none⟩ = some (.bool false) := by simp [World.cell?, hB1]
         have k1 : w1.cell? ⟨W.heap.size + 1, 1, none⟩ = some (.slice none 0 0) := by simp [World.cell?, hB1]
         have kf : ∀ i, w1.frozen? ⟨W.heap.size + 1, i, none⟩ = false := fun i => by simp [World.frozen?, hB1]
         have kc0 : w1.cell? ⟨W.heap.size, 0, none⟩ = some (.pointer (some ⟨b, 0, none⟩)) := by simp [World.cell?, hC1]
         have kc1 : (w1.setCell ⟨W.heap.size + 1, 0, none⟩ (.bool t)).cell? ⟨W.heap.size, 0, none⟩ = some (.pointer (some ⟨b, 0, none⟩)) := by rw [← kc0]; simp only [World.cell?]; rw [Below.heap_setCell _ _ _ _ (by dsimp only; omega)]
         replace h1 := hid h1
         replace hg1 := hid (grown_trans (grown_alloc (grown_alloc (grown_refl W (some b)) _) _) hg1)
         replace hB1 := hid (blk_set (i := 0) (v := .bool t) hB1)
         replace kc1 := hid kc1
         clear hC1)
      | (go_at_call 87; refine (HF.out _ (h1.out.far (by omega)) kc1.out).mono ?_; clear HF; rintro en w2 ⟨va, vn, vc, rfl, h2, hg2, hq2, hd2⟩
         have hl2 := (Array.getElem?_eq_some_iff.1 hB1.out).1
         have hB2 := (hg2.block (W.heap.size + 1) hl2 (by simp; omega)).trans hB1.out
         have j0 : w2.cell? ⟨W.heap.size + 1, 0, none⟩ = some (.bool t) := by simp [World.cell?, hB2]
         have j1 : w2.cell? ⟨W.heap.size + 1, 1, none⟩ = some (.slice none 0 0) := by simp [World.cell?, hB2]
         have jf : ∀ i, w2.frozen? ⟨W.heap.size + 1, i, none⟩ = false := fun i => by simp [World.frozen?, hB2]
         generalize hev : errV r2 = ev
         replace hev := hid hev
         replace h2 := hid h2
         replace hg2 := hid (grown_trans (grown_newc hg1.out (Nat.le_succ _)) hg2)
         replace hd2 := hid hd2
         replace hl2 := hid hl2
         replace hB2 := hid hB2)
      | go_in)
    rw [HG.out]
    refine han_fin (o := t) (va := va) (vn := vn) (vc := vc) (oB := W.heap.size + 1) rfl rfl rfl ?_ hev.out (((h2.out.far (by omega)).far (by omega)).far (by omega)) (grown_newc (grown_newc (grown_newc hg2.out (Nat.le_succ _)) (Nat.le_succ _)) (Nat.le_succ _)) hq2 (fun h => ?_)
    · exact blk_set (blk_set (blk_set hB2.out))
    · obtain ⟨a1, D, a2, a3⟩ := hd2.out h
      have hl2' := hl2.out
      simp at hl2'
      refine ⟨a1, rfl, D, a2.keep RInt.ok (fun k hk => set_same ?_) (fun _ h => h), fun k hk => ?_⟩
      · have := (a3 k hk).1
        simp at this
        omega
      · obtain ⟨b1, b2, b3⟩ := a3 k hk
        simp at b1
        exact ⟨by omega, by simpa using b2, b3⟩
  · rw [errV_no hr] at HT
    rw [bad_num' hr] at HG
    go_enter Tryz.func53, Tryz.ntmps53
    go_wp2_with (first
      | (go_at_call 86; refine HT.out.mono ?_; clear HT; rintro en w1 ⟨rfl, h1, hg1⟩
         have hB1 := (hg1.block (W.heap.size + 1) (by simp) (by simp; omega)).trans hB0
         have k0 : w1.cell? ⟨W.heap.size + 1, 0, none⟩ = some (.bool false) := by simp [World.cell?, hB1]
         have k1 : w1.cell? ⟨W.heap.size + 1, 1, none⟩ = some (.slice none 0 0) := by simp [World.cell?, hB1]
         have kf : ∀ i, w1.frozen? ⟨W.heap.size + 1, i, none⟩ = false := fun i => by simp [World.frozen?, hB1]
         replace h1 := hid h1
         replace hg1 := hid (grown_trans (grown_alloc (grown_alloc (grown_refl W (some b)) _) _) hg1)
         replace hB1 := hid hB1)
      | go_in)
    rw [HG.out]
    refine han_fin (o := t) (va := none) (vn := 0) (vc := 0) (oB := W.heap.size + 1) rfl rfl rfl ?_ (errV_no hr) (((h1.out.far (by omega)).far (by omega)).far (by omega)) (grown_newc (grown_newc (grown_newc hg1.out (Nat.le_succ _)) (Nat.le_succ _)) (Nat.le_succ _)) hle (fun h => absurd h hr)
    exact blk_set (blk_set (blk_set hB1.out))
end Go.Proofs.YtpjbfdpblgjmfaaGreatDoor
