/-
  The document's Decode as a plain function; what Encode writes it reads as the same code.
-/
import Derived.Test.YticmoofjjikefaaDoorCf
set_option linter.unusedVariables false
set_option linter.unusedSimpArgs false
namespace Go.Proofs.YticmoofjjikefaaDoor
namespace Cd

def Rd.opsL (s : List UInt8) : Nat → Rd → List Op × Rd
  | 0, r => ([], r)
  | n + 1, r =>
    if r.fk = 0 then
      let k := r.num s 1
      let r1 := if 20 < k.1 then k.2.no 14 (k.2.pos - 1) else k.2
      let t := r1.text s k.1
      let o := t.2.flag s
      let q := opsL s n o.2
      (⟨t.1, o.1⟩ :: q.1, q.2)
    else ([], r)
def Rd.intsL (s : List UInt8) : Nat → Rd → List Int × Rd
  | 0, r => ([], r)
  | n + 1, r =>
    if r.fk = 0 then
      let k := r.num s 1
      let q := intsL s n k.2
      ((k.1 : Int) :: q.1, q.2)
    else ([], r)
def Rd.han (s : List UInt8) (r : Rd) : Han × Rd :=
  let a := r.flag s
  let k := a.2.num s 1
  let q := k.2.intsL s k.1
  (⟨a.1, q.1⟩, q.2)
def Rd.hansL (s : List UInt8) : Nat → Rd → List Han × Rd
  | 0, r => ([], r)
  | n + 1, r =>
    if r.fk = 0 then
      let h := r.han s
      let q := hansL s n h.2
      (h.1 :: q.1, q.2)
    else ([], r)
def Rd.insL (s : List UInt8) : Nat → Rd → List Ins × Rd
  | 0, r => ([], r)
  | n + 1, r =>
    if r.fk = 0 then
      let k := r.ins s
      let q := insL s n k.2
      (k.1 :: q.1, q.2)
    else ([], r)
def Rd.fn (s : List UInt8) (r : Rd) : Fun × Rd :=
  let a := r.num s 2
  let b := a.2.num s 2
  let k := b.2.num s 2
  let q := k.2.insL s k.1
  (⟨a.1, b.1, q.1⟩, q.2)
def Rd.funsL (s : List UInt8) : Nat → Rd → List Fun × Rd
  | 0, r => ([], r)
  | n + 1, r =>
    if r.fk = 0 then
      let h := r.fn s
      let q := funsL s n h.2
      (h.1 :: q.1, q.2)
    else ([], r)
/-- The first three bytes. -/
def Rd.head (s : List UInt8) : Nat → Rd → Rd
  | 0, r => r
  | n + 1, r => Rd.head s n (match s[2 - n]?, Cd.head[2 - n]? with
    | none, _ => r.no 13 (2 - n)
    | some c, some d => if c = d then r else r.no 12 (2 - n)
    | some _, none => r)
def Rd.code (s : List UInt8) (r : Rd) : Code × Rd :=
  let a := r.num s 2
  let t := a.2.text s a.1
  let n := t.2.num s 1
  let o := n.2.opsL s n.1
  let m := o.2.num s 2
  let h := m.2.hansL s m.1
  let k := h.2.num s 2
  let f := k.2.funsL s k.1
  (⟨t.1, o.1, h.1, f.1⟩, if f.2.fk = 0 ∧ f.2.pos < s.length then f.2.no 13 f.2.pos else f.2)
/-- What Decode answers: a code, or a fault's kind and place. -/
def dec (s : List UInt8) : Code × Nat × Nat :=
  if 4000000 < s.length then (⟨[], [], [], []⟩, 1, 0)
  else
    let q := (Rd.head s 3 ⟨3, 0, 0⟩).code s
    if q.2.fk = 0 then (q.1, 0, 0) else (⟨[], [], [], []⟩, q.2.fk, q.2.fa)

/-- Nothing has been at fault, and this is left. -/
def Good (s : List UInt8) (r : Rd) (l : List UInt8) : Prop := r.fk = 0 ∧ s.drop r.pos = l ∧ r.pos ≤ s.length
def Rd.adv (r : Rd) (n : Nat) : Rd := ⟨r.pos + n, r.fk, r.fa⟩
theorem Good.adv {s : List UInt8} {r : Rd} {l k : List UInt8} (h : Good s r (l ++ k)) : Good s (r.adv l.length) k ∧ r.has s l.length := by
  obtain ⟨h1, h2, h3⟩ := h
  have hl := congrArg List.length h2
  simp only [List.length_drop, List.length_append] at hl
  refine ⟨⟨h1, ?_, ?_⟩, h1, by omega⟩
  · show s.drop (r.pos + l.length) = k
    rw [← List.drop_drop, h2, List.drop_left]
  · show r.pos + l.length ≤ s.length
    omega
theorem Good.num {s : List UInt8} {r : Rd} {l k : List UInt8} (h : Good s r (l ++ k)) {n : Nat} (hn : l.length = n) : r.num s n = (Cd.num l, r.adv n) ∧ Good s (r.adv n) k := by
  subst hn
  obtain ⟨h1, h2⟩ := h.adv
  refine ⟨?_, h1⟩
  rw [Rd.num, if_pos h2, h.2.1, List.take_left]
  rfl
theorem Good.text {s : List UInt8} {r : Rd} {l k : List UInt8} (h : Good s r (l ++ k)) {n : Nat} (hn : l.length = n) : r.text s n = (l, r.adv n) ∧ Good s (r.adv n) k := by
  subst hn
  obtain ⟨h1, h2⟩ := h.adv
  refine ⟨?_, h1⟩
  rw [Rd.text, if_pos h2, h.2.1, List.take_left]
  rfl
theorem Good.big {s : List UInt8} {r : Rd} {v : Int} {k : List UInt8} {n : Nat} (h : Good s r (big v n ++ k)) (h0 : 0 ≤ v) (h1 : v < (256 ^ n : Int)) : r.num s n = (v.toNat, r.adv n) ∧ Good s (r.adv n) k := by
  obtain ⟨e, g⟩ := h.num (big_length n v)
  refine ⟨?_, g⟩
  rw [e]
  have := num_big_fits h0 h1
  congr 1
  omega
theorem Good.flag {s : List UInt8} {r : Rd} {b : Bool} {k : List UInt8} (h : Good s r (Cd.flag b ++ k)) : r.flag s = (b, r.adv 1) ∧ Good s (r.adv 1) k := by
  obtain ⟨e, g⟩ := h.num (flag_length b)
  refine ⟨?_, g⟩
  rw [Rd.flag, e]
  cases b <;> simp [Cd.flag, Cd.num]
theorem Good.low {s : List UInt8} {r : Rd} {v : Int} {k : List UInt8} (h : Good s r (Cd.low v :: k)) (h0 : 0 ≤ v) (h1 : v < 256) : r.num s 1 = (v.toNat, r.adv 1) ∧ Good s (r.adv 1) k := by
  have : Cd.low v :: k = Cd.big v 1 ++ k := by simp [Cd.big]
  rw [this] at h
  exact h.big h0 (by simpa using h1)

theorem ins_back {s : List UInt8} {r : Rd} {x : Ins} {k : List UInt8} (h : Good s r (insB x ++ k)) (hx : insOk x = true) (hr : -9223372036854775808 ≤ x.n ∧ x.n ≤ 9223372036854775807) : (r.ins s).1 = x ∧ Good s (r.ins s).2 k := by
  obtain ⟨op, a, b, n⟩ := x
  unfold insOk at hx
  simp only [Bool.and_eq_true, Bool.or_eq_true, beq_iff_eq] at hx
  obtain ⟨⟨⟨⟨⟨h1, h2⟩, h3⟩, h4⟩, h5⟩, h6⟩ := hx
  simp only [fits, Bool.and_eq_true, decide_eq_true_eq] at h1 h5 h6
  unfold insB at h
  dsimp only at h h2 h3 h4 hr
  rw [List.cons_append] at h
  obtain ⟨e1, g1⟩ := h.low (by omega) (by omega)
  have hop : ((op.toNat : Nat) : Int) = op := by omega
  unfold Rd.ins
  rw [e1]
  dsimp only
  rw [if_neg (by omega), hop]
  by_cases f8 : form op = 8
  · rw [if_pos f8] at g1 ⊢
    have ha : a = 0 := by simpa [f8] using h3
    have hb : b = 0 := by simpa [f8] using h4
    obtain ⟨e2, g2⟩ := g1.num (big_length 8 n)
    rw [e2]
    refine ⟨?_, g2⟩
    have hnb := num_big 8 n
    have hsg : sgn (num (big n 8)) = n := by
      unfold sgn
      have : (256 ^ 8 : Int) = 18446744073709551616 := by decide
      rw [this] at hnb
      split <;> omega
    rw [ha, hb]
    simp [hsg]
  · rw [if_neg f8] at g1 ⊢
    have hn : n = 0 := by simpa [f8] using h2
    by_cases f1 : form op = 1
    · rw [if_pos f1] at g1 ⊢
      have hb : b = 0 := by simpa [f1] using h4
      obtain ⟨e2, g2⟩ := g1.big (by omega) (by simp; omega)
      rw [e2]
      refine ⟨?_, g2⟩
      rw [hb, hn]
      simp
      omega
    · rw [if_neg f1] at g1 ⊢
      by_cases f2 : form op = 2
      · rw [if_pos f2, List.append_assoc] at g1
        rw [if_pos f2]
        obtain ⟨e2, g2⟩ := g1.big (by omega) (by simp; omega)
        obtain ⟨e3, g3⟩ := g2.big (by omega) (by simp; omega)
        rw [e2]
        dsimp only
        rw [e3]
        refine ⟨?_, g3⟩
        rw [hn]
        simp
        omega
      · rw [if_neg f2] at g1 ⊢
        have ha : a = 0 := by simpa [f1, f2] using h3
        have hb : b = 0 := by simpa [f2] using h4
        refine ⟨?_, by simpa using g1⟩
        rw [ha, hb, hn]

theorem Good.nil {s : List UInt8} {r : Rd} {k : List UInt8} (h : Good s r k) : r.fk = 0 := h.1
theorem ops_back {s : List UInt8} {k : List UInt8} : ∀ (l : List Op) (r : Rd), Good s r (l.flatMap opB ++ k) → (∀ o ∈ l, opOk o = true) → (r.opsL s l.length).1 = l ∧ Good s (r.opsL s l.length).2 k
  | [], r, h, _ => ⟨rfl, h⟩
  | o :: l, r, h, ho => by
    have h20 : o.name.length ≤ 20 := by simpa [opOk] using ho o (by simp)
    simp only [List.flatMap_cons, opB, List.append_assoc] at h
    obtain ⟨e1, g1⟩ := h.big (by omega) (by simp; omega)
    obtain ⟨e2, g2⟩ := g1.text rfl
    obtain ⟨e3, g3⟩ := g2.flag
    obtain ⟨i1, i2⟩ := ops_back l _ g3 (fun x hx => ho x (by simp [hx]))
    simp only [List.length_cons, Rd.opsL, if_pos h.1, e1, Int.toNat_natCast, if_neg (show ¬ 20 < o.name.length by omega), e2, e3]
    exact ⟨by rw [i1], i2⟩
theorem ints_back {s : List UInt8} {k : List UInt8} : ∀ (l : List Int) (r : Rd), Good s r (l.map Cd.low ++ k) → (∀ x ∈ l, fits x 255 = true) → (r.intsL s l.length).1 = l ∧ Good s (r.intsL s l.length).2 k
  | [], r, h, _ => ⟨rfl, h⟩
  | x :: l, r, h, ho => by
    have hx : 0 ≤ x ∧ x ≤ 255 := by simpa [fits] using ho x (by simp)
    simp only [List.map_cons, List.cons_append] at h
    obtain ⟨e1, g1⟩ := h.low (by omega) (by omega)
    obtain ⟨i1, i2⟩ := ints_back l _ g1 (fun x hx => ho x (by simp [hx]))
    simp only [List.length_cons, Rd.intsL, if_pos h.1, e1]
    exact ⟨by rw [i1]; congr 1; omega, i2⟩
theorem han_back {s : List UInt8} {k : List UInt8} {o : Han} {r : Rd} (h : Good s r (hanB o ++ k)) (ho : hanOk o = true) : (r.han s).1 = o ∧ Good s (r.han s).2 k := by
  unfold hanOk at ho
  simp only [Bool.and_eq_true, decide_eq_true_eq, List.all_eq_true] at ho
  simp only [hanB, List.append_assoc] at h
  obtain ⟨e1, g1⟩ := h.flag
  obtain ⟨e2, g2⟩ := g1.big (by omega) (by simp; omega)
  obtain ⟨i1, i2⟩ := ints_back o.ops _ g2 ho.2
  simp only [Rd.han, e1, e2, Int.toNat_natCast]
  exact ⟨by rw [i1], i2⟩
theorem hans_back {s : List UInt8} {k : List UInt8} : ∀ (l : List Han) (r : Rd), Good s r (l.flatMap hanB ++ k) → (∀ o ∈ l, hanOk o = true) → (r.hansL s l.length).1 = l ∧ Good s (r.hansL s l.length).2 k
  | [], r, h, _ => ⟨rfl, h⟩
  | o :: l, r, h, ho => by
    simp only [List.flatMap_cons, List.append_assoc] at h
    obtain ⟨e1, g1⟩ := han_back h (ho o (by simp))
    obtain ⟨i1, i2⟩ := hans_back l _ g1 (fun x hx => ho x (by simp [hx]))
    simp only [List.length_cons, Rd.hansL, if_pos h.1]
    exact ⟨by rw [i1, e1], i2⟩
theorem inss_back {s : List UInt8} {k : List UInt8} : ∀ (l : List Ins) (r : Rd), Good s r (l.flatMap insB ++ k) → (∀ o ∈ l, insOk o = true) → (∀ o ∈ l, -9223372036854775808 ≤ o.n ∧ o.n ≤ 9223372036854775807) → (r.insL s l.length).1 = l ∧ Good s (r.insL s l.length).2 k
  | [], r, h, _, _ => ⟨rfl, h⟩
  | o :: l, r, h, ho, hr => by
    simp only [List.flatMap_cons, List.append_assoc] at h
    obtain ⟨e1, g1⟩ := ins_back h (ho o (by simp)) (hr o (by simp))
    obtain ⟨i1, i2⟩ := inss_back l _ g1 (fun x hx => ho x (by simp [hx])) (fun x hx => hr x (by simp [hx]))
    simp only [List.length_cons, Rd.insL, if_pos h.1]
    exact ⟨by rw [i1, e1], i2⟩
theorem fn_back {s : List UInt8} {k : List UInt8} {o : Fun} {r : Rd} (h : Good s r (funB o ++ k)) (ho : funOk o = true) (hr : ∀ x ∈ o.ins, -9223372036854775808 ≤ x.n ∧ x.n ≤ 9223372036854775807) : (r.fn s).1 = o ∧ Good s (r.fn s).2 k := by
  unfold funOk at ho
  simp only [Bool.and_eq_true, decide_eq_true_eq, List.all_eq_true, fits] at ho
  obtain ⟨⟨⟨⟨a0, a1⟩, b0, b1⟩, c1⟩, d1⟩ := ho
  simp only [funB, List.append_assoc] at h
  obtain ⟨e1, g1⟩ := h.big a0 (by simp; omega)
  obtain ⟨e2, g2⟩ := g1.big b0 (by simp; omega)
  obtain ⟨e3, g3⟩ := g2.big (by omega) (by simp; omega)
  obtain ⟨i1, i2⟩ := inss_back o.ins _ g3 d1 hr
  simp only [Rd.fn, e1, e2, e3, Int.toNat_natCast]
  refine ⟨?_, i2⟩
  rw [i1]
  have f1 : ((o.free.toNat : Nat) : Int) = o.free := by omega
  have f2 : ((o.slots.toNat : Nat) : Int) = o.slots := by omega
  rw [f1, f2]
theorem funs_back {s : List UInt8} {k : List UInt8} : ∀ (l : List Fun) (r : Rd), Good s r (l.flatMap funB ++ k) → (∀ o ∈ l, funOk o = true) → (∀ f ∈ l, ∀ x ∈ f.ins, -9223372036854775808 ≤ x.n ∧ x.n ≤ 9223372036854775807) → (r.funsL s l.length).1 = l ∧ Good s (r.funsL s l.length).2 k
  | [], r, h, _, _ => ⟨rfl, h⟩
  | o :: l, r, h, ho, hr => by
    simp only [List.flatMap_cons, List.append_assoc] at h
    obtain ⟨e1, g1⟩ := fn_back h (ho o (by simp)) (hr o (by simp))
    obtain ⟨i1, i2⟩ := funs_back l _ g1 (fun x hx => ho x (by simp [hx])) (fun x hx => hr x (by simp [hx]))
    simp only [List.length_cons, Rd.funsL, if_pos h.1]
    exact ⟨by rw [i1, e1], i2⟩

/-- What is written is read as the same code. -/
theorem dec_bytes {C : Code} (h : ok C = true) (hl : (bytes C).length ≤ 4000000) (hr : ∀ f ∈ C.funs, ∀ x ∈ f.ins, -9223372036854775808 ≤ x.n ∧ x.n ≤ 9223372036854775807) : dec (bytes C) = (C, 0, 0) := by
  unfold ok counts at h
  simp only [Bool.and_eq_true, decide_eq_true_eq, List.all_eq_true] at h
  obtain ⟨⟨⟨⟨⟨⟨c0, c1⟩, c2⟩, c3⟩, o1⟩, o2⟩, o3⟩ := h
  have hb : bytes C = Cd.head ++ (big C.shape.length 2 ++ (C.shape ++ (big C.ops.length 1 ++ (C.ops.flatMap opB ++ (big C.hans.length 2 ++ (C.hans.flatMap hanB ++ (big C.funs.length 2 ++ (C.funs.flatMap funB ++ [])))))))) := by simp [bytes]
  have h0 : Rd.head (bytes C) 3 ⟨3, 0, 0⟩ = ⟨3, 0, 0⟩ := by
    rw [hb]
    simp [Rd.head, Cd.head]
  have g0 : Good (bytes C) ⟨3, 0, 0⟩ (big C.shape.length 2 ++ (C.shape ++ (big C.ops.length 1 ++ (C.ops.flatMap opB ++ (big C.hans.length 2 ++ (C.hans.flatMap hanB ++ (big C.funs.length 2 ++ (C.funs.flatMap funB ++ [])))))))) := by
    refine ⟨rfl, ?_, ?_⟩
    · rw [hb]; rfl
    · rw [hb]; simp [Cd.head]
  unfold dec
  rw [if_neg (by omega), h0]
  generalize bytes C = s at g0 hl
  obtain ⟨e1, g1⟩ := g0.big (by omega) (by simp; omega)
  obtain ⟨e2, g2⟩ := g1.text rfl
  obtain ⟨e3, g3⟩ := g2.big (by omega) (by simp; omega)
  obtain ⟨i4, g4⟩ := ops_back C.ops _ g3 o1
  obtain ⟨e5, g5⟩ := g4.big (by omega) (by simp; omega)
  obtain ⟨i6, g6⟩ := hans_back C.hans _ g5 o2
  obtain ⟨e7, g7⟩ := g6.big (by omega) (by simp; omega)
  obtain ⟨i8, g8⟩ := funs_back C.funs _ g7 o3 hr
  have hend : ¬ ((Rd.funsL s C.funs.length (Rd.adv (Rd.hansL s C.hans.length (Rd.adv (Rd.opsL s C.ops.length (Rd.adv (Rd.adv (Rd.adv ⟨3, 0, 0⟩ 2) C.shape.length) 1)).2 2)).2 2)).2.pos < s.length) := by
    have := congrArg List.length g8.2.1
    simp only [List.length_drop, List.length_nil] at this
    omega
  simp only [Rd.code, e1, e2, e3, e5, e7, Int.toNat_natCast]
  simp only [hend, and_false, if_false]
  rw [if_pos g8.1, i4, i6, i8]
end Cd
end Go.Proofs.YticmoofjjikefaaDoor
