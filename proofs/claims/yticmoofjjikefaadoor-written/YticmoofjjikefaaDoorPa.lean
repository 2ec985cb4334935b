/-
  The program's writer, as plain functions: what would be written, and whether something can't be.
-/
import Derived.Test.YticmoofjjikefaaDoorCa
set_option linter.unusedVariables false
set_option linter.unusedSimpArgs false
namespace Go.Proofs.YticmoofjjikefaaDoor
namespace Cd

/-- The bytes that would stand there, and whether something did not fit. -/
abbrev WSt := List UInt8 × Bool
def fitsW (v : Int) (k : Nat) : Bool := k == 8 || (decide (0 ≤ v) && decide (v < (256 ^ k : Int)))
def wnum (v : Int) (k : Nat) (s : WSt) : WSt := if fitsW v k then (s.1 ++ big v k, s.2) else (s.1, true)
def wplain (l : List UInt8) (s : WSt) : WSt := (s.1 ++ l, s.2)
def wtext (l : List UInt8) (size most : Nat) (s : WSt) : WSt := if most < l.length then (s.1, true) else wplain l (wnum l.length size s)
def wflag (b : Bool) (s : WSt) : WSt := wnum (if b then 1 else 0) 1 s
def wa (op : Int) : Nat := if form op = 1 ∨ form op = 2 then 2 else 0
def wb (op : Int) : Nat := if form op = 2 then 2 else 0
def wn (op : Int) : Nat := if form op = 8 then 8 else 0
def wins (x : Ins) (s : WSt) : WSt := if fits x.op 22 then wnum x.n (wn x.op) (wnum x.b (wb x.op) (wnum x.a (wa x.op) (wnum x.op 1 s))) else (s.1, true)
def wop (o : Op) (s : WSt) : WSt := wflag o.once (wtext o.name 1 20 s)
def whan (h : Han) (s : WSt) : WSt := h.ops.foldl (fun s v => wnum v 1 s) (wnum h.ops.length 1 (wflag h.shallow s))
def wfun (f : Fun) (s : WSt) : WSt := f.ins.foldl (fun s x => wins x s) (wnum f.ins.length 2 (wnum f.slots 2 (wnum f.free 2 s)))
def wcode (c : Code) (s : WSt) : WSt :=
  c.funs.foldl (fun s f => wfun f s) (wnum c.funs.length 2 (c.hans.foldl (fun s h => whan h s) (wnum c.hans.length 2 (c.ops.foldl (fun s o => wop o s) (wnum c.ops.length 1 (wtext c.shape 2 65535 (wplain head s)))))))

/-- Writes these bytes, if all fits. -/
def Wr (f : WSt → WSt) (o : Bool) (l : List UInt8) : Prop := ∀ s, (f s).2 = (s.2 || !o) ∧ (o = true → (f s).1 = s.1 ++ l)
theorem Wr.then {f g : WSt → WSt} {o p : Bool} {l k : List UInt8} (h : Wr f o l) (h2 : Wr g p k) : Wr (fun s => g (f s)) (o && p) (l ++ k) := by
  intro s
  obtain ⟨a1, a2⟩ := h s
  obtain ⟨b1, b2⟩ := h2 (f s)
  refine ⟨by rw [b1, a1]; cases s.2 <;> cases o <;> cases p <;> rfl, fun h => ?_⟩
  rw [Bool.and_eq_true] at h
  rw [b2 h.2, a2 h.1, List.append_assoc]
theorem Wr.as {f : WSt → WSt} {o p : Bool} {l k : List UInt8} (h : Wr f o l) (ho : o = p) (hl : p = true → l = k) : Wr f p k := by
  subst ho
  intro s
  exact ⟨(h s).1, fun e => by rw [(h s).2 e, hl e]⟩
theorem Wr.fold {α : Type} {f : α → WSt → WSt} {o : α → Bool} {l : α → List UInt8} (h : ∀ x, Wr (f x) (o x) (l x)) : ∀ xs : List α, Wr (fun s => xs.foldl (fun s x => f x s) s) (xs.all o) (xs.flatMap l)
  | [] => fun s => by simp
  | x :: xs => by
    have := (h x).then (Wr.fold h xs)
    simpa using this
theorem wr_num (v : Int) (k : Nat) : Wr (wnum v k) (fitsW v k) (big v k) := by
  intro s
  unfold wnum
  cases fitsW v k <;> simp
theorem wr_plain (l : List UInt8) : Wr (wplain l) true l := by
  intro s
  simp [wplain]
theorem fitsW_len1 (n : Nat) : fitsW (n : Int) 1 = decide (n ≤ 255) := by
  unfold fitsW
  rw [Bool.eq_iff_iff]
  simp
  omega
theorem fitsW_len2 (n : Nat) : fitsW (n : Int) 2 = decide (n ≤ 65535) := by
  unfold fitsW
  rw [Bool.eq_iff_iff]
  simp
  omega
theorem fitsW_1 (v : Int) : fitsW v 1 = fits v 255 := by
  unfold fitsW fits
  rw [Bool.eq_iff_iff]
  simp
  omega
theorem fitsW_2 (v : Int) : fitsW v 2 = fits v 65535 := by
  unfold fitsW fits
  rw [Bool.eq_iff_iff]
  simp
  omega
theorem fitsW_0 (v : Int) : fitsW v 0 = (v == 0) := by
  unfold fitsW
  rw [Bool.eq_iff_iff]
  simp
  omega
theorem fitsW_8 (v : Int) : fitsW v 8 = true := by simp [fitsW]
theorem wr_text {l : List UInt8} {size most : Nat} (hs : ∀ n : Nat, n ≤ most → fitsW n size = true) : Wr (wtext l size most) (decide (l.length ≤ most)) (big l.length size ++ l) := by
  intro s
  unfold wtext
  by_cases h : most < l.length
  · rw [if_pos h]
    have : ¬ l.length ≤ most := by omega
    simp [this]
  · rw [if_neg h]
    have h2 : l.length ≤ most := by omega
    have := ((wr_num l.length size).then (wr_plain l)) s
    rw [hs _ h2] at this
    simpa [h2] using this
theorem wr_flag (b : Bool) : Wr (wflag b) true (flag b) := by
  have := wr_num (if b then 1 else 0) 1
  refine this.as ?_ (fun _ => ?_)
  · cases b <;> rfl
  · cases b <;> rfl
theorem wr_op (o : Op) : Wr (wop o) (opOk o) (opB o) := by
  have := (wr_text (l := o.name) (size := 1) (most := 20) (fun n hn => by rw [fitsW_len1]; simp; omega)).then (wr_flag o.once)
  exact this.as (by simp [opOk]) (fun _ => by simp [opB])
theorem flatMap_big1 (l : List Int) : l.flatMap (fun v => big v 1) = l.map low := by
  induction l with
  | nil => rfl
  | cons x r ih =>
    rw [List.flatMap_cons, ih]
    simp [big]
theorem wr_han (h : Han) : Wr (whan h) (hanOk h) (hanB h) := by
  have := ((wr_flag h.shallow).then (wr_num h.ops.length 1)).then (Wr.fold (fun v => wr_num v 1) h.ops)
  refine this.as ?_ (fun _ => ?_)
  · rw [fitsW_len1]
    unfold hanOk
    congr 1
    exact congrArg _ (funext fun v => fitsW_1 v)
  · rw [flatMap_big1]
    rfl
theorem wr_ins (x : Ins) : Wr (wins x) (insOk x) (insB x) := by
  by_cases h : fits x.op 22 = true
  · have := (((wr_num x.op 1).then (wr_num x.a (wa x.op))).then (wr_num x.b (wb x.op))).then (wr_num x.n (wn x.op))
    have e : wins x = fun s => wnum x.n (wn x.op) (wnum x.b (wb x.op) (wnum x.a (wa x.op) (wnum x.op 1 s))) := by
      funext s
      unfold wins
      rw [if_pos h]
    rw [e]
    have ho : fitsW x.op 1 = true := by
      rw [fitsW_1]
      unfold fits at h ⊢
      simp at h ⊢
      omega
    refine this.as ?_ (fun _ => ?_)
    · rw [ho]
      have ka : (x.a == 0) = true → fits x.a 65535 = true := fun h => by rw [beq_iff_eq.1 h]; decide
      have kb : (x.b == 0) = true → fits x.b 65535 = true := fun h => by rw [beq_iff_eq.1 h]; decide
      unfold insOk
      rw [h]
      by_cases h8 : form x.op = 8
      · simp only [wa, wb, wn, h8]
        simp [fitsW_0, fitsW_8]
        generalize fits x.a 65535 = A at *
        generalize fits x.b 65535 = B at *
        generalize (x.a == 0) = p at *
        generalize (x.b == 0) = q at *
        revert ka kb
        cases A <;> cases B <;> cases p <;> cases q <;> simp [fitsW_0]
      · by_cases h1 : form x.op = 1
        · simp only [wa, wb, wn, h1, fitsW_0, fitsW_8]
          simp [fitsW_0, fitsW_2]
          generalize fits x.a 65535 = A at *
          generalize fits x.b 65535 = B at *
          generalize (x.n == 0) = p at *
          generalize (x.b == 0) = q at *
          revert kb
          cases A <;> cases B <;> cases p <;> cases q <;> simp
        · by_cases h2 : form x.op = 2
          · simp only [wa, wb, wn, h2]
            simp [fitsW_0, fitsW_2]
            generalize fits x.a 65535 = A at *
            generalize fits x.b 65535 = B at *
            generalize (x.n == 0) = p at *
            cases A <;> cases B <;> cases p <;> simp
          · simp only [wa, wb, wn, h8, h1, h2]
            have e8 : (form x.op == 8) = false := by simpa using h8
            have e1 : (form x.op == 1) = false := by simpa using h1
            have e2 : (form x.op == 2) = false := by simpa using h2
            rw [e8, e1, e2]
            simp [fitsW_0]
            generalize fits x.a 65535 = A at *
            generalize fits x.b 65535 = B at *
            generalize (x.n == 0) = p at *
            generalize (x.b == 0) = q at *
            generalize (x.a == 0) = r at *
            revert ka kb
            cases A <;> cases B <;> cases p <;> cases q <;> cases r <;> simp
    · unfold insB wa wb wn
      by_cases h8 : form x.op = 8
      · simp [h8, big]
      · by_cases h1 : form x.op = 1
        · simp [h1, big]
        · by_cases h2 : form x.op = 2
          · simp [h2, big]
          · simp [h8, h1, h2, big]
  · have h' : fits x.op 22 = false := by simpa using h
    have hk : insOk x = false := by unfold insOk; rw [h']; simp
    intro s
    unfold wins
    rw [if_neg h, hk]
    simp
theorem wr_fun (f : Fun) : Wr (wfun f) (funOk f) (funB f) := by
  have := (((wr_num f.free 2).then (wr_num f.slots 2)).then (wr_num f.ins.length 2)).then (Wr.fold wr_ins f.ins)
  refine this.as ?_ (fun _ => rfl)
  rw [fitsW_len2, fitsW_2, fitsW_2]
  rfl
theorem wr_code (c : Code) : Wr (wcode c) (ok c) (bytes c) := by
  have := ((((((((wr_plain head).then (wr_text (l := c.shape) (size := 2) (most := 65535) (fun n hn => by rw [fitsW_len2]; simp; omega))).then (wr_num c.ops.length 1)).then (Wr.fold wr_op c.ops)).then (wr_num c.hans.length 2)).then (Wr.fold wr_han c.hans)).then (wr_num c.funs.length 2)).then (Wr.fold wr_fun c.funs))
  refine this.as ?_ (fun _ => ?_)
  · rw [fitsW_len1, fitsW_len2, fitsW_len2]
    unfold ok counts
    generalize decide (c.shape.length ≤ 65535) = a
    generalize decide (c.ops.length ≤ 255) = b
    generalize c.ops.all opOk = d
    generalize decide (c.hans.length ≤ 65535) = e
    generalize c.hans.all hanOk = f
    generalize decide (c.funs.length ≤ 65535) = g
    generalize c.funs.all funOk = h
    revert a b d e f g h
    decide
  · simp [bytes, List.append_assoc]
end Cd
end Go.Proofs.YticmoofjjikefaaDoor
