/-
  The program's writer, as plain functions: what would be written, and whether something can't be.
  What an argument of the type api.Code reads as is a code in memory.
  The program's isOp and widths.
  The program's reader: an instruction.
-/
import Derived.Test.YtpjbfdpblgjmfaaGreatDoorMA
import Derived.ProofKit
import Derived.Deep.Slices
import Derived.BigRegion
import Derived.Test.YtpjbfdpblgjmfaaGreatDoorMF
set_option linter.unusedVariables false
set_option linter.unusedSimpArgs false
namespace Go.Proofs.YtpjbfdpblgjmfaaGreatDoor
namespace Cd

/-- The bytes that would stand there, and whether something did not fit. -/
abbrev WSt := List UInt8 × Bool
def fitsW (v : Int) (k : Nat) : Bool := k == 8 || (decide (0 ≤ v) && decide (v < (256 ^ k : Int)))
def wnum (v : Int) (k : Nat) (s : WSt) : WSt := if fitsW v k then (s.1 ++ big v k, s.2) else (s.1, true)
def wplain (l : List UInt8) (s : WSt) : WSt := (s.1 ++ l, s.2)
def wtext (l : List UInt8) (size most : Nat) (s : WSt) : WSt := if most < l.length then (s.1, true) else wplain l (wnum l.length size s)
def wflag (b : Bool) (s : WSt) : WSt := wnum (if b then 1 else 0) 1 s
def wa (op : Int) : Nat := if form op = 1 ∨ form op = 2 then 2 else 0
def wb (op : Int) : Nat := if form op = 2 then 2 else 0
def wn (op : Int) : Nat := if form op = 8 then 8 else 0
def wins (x : Ins) (s : WSt) : WSt := if fits x.op 22 then wnum x.n (wn x.op) (wnum x.b (wb x.op) (wnum x.a (wa x.op) (wnum x.op 1 s))) else (s.1, true)
def wop (o : Op) (s : WSt) : WSt := wflag o.once (wtext o.name 1 20 s)
def whan (h : Han) (s : WSt) : WSt := h.ops.foldl (fun s v => wnum v 1 s) (wnum h.ops.length 1 (wflag h.shallow s))
def wfun (f : Fun) (s : WSt) : WSt := f.ins.foldl (fun s x => wins x s) (wnum f.ins.length 2 (wnum f.slots 2 (wnum f.free 2 s)))
def wcode (c : Code) (s : WSt) : WSt :=
  c.funs.foldl (fun s f => wfun f s) (wnum c.funs.length 2 (c.hans.foldl (fun s h => whan h s) (wnum c.hans.length 2 (c.ops.foldl (fun s o => wop o s) (wnum c.ops.length 1 (wtext c.shape 2 65535 (wplain head s)))))))

/-- Writes these bytes, if all fits. -/
def Wr (f : WSt → WSt) (o : Bool) (l : List UInt8) : Prop := ∀ s, (f s).2 = (s.2 || !o) ∧ (o = true → (f s).1 = s.1 ++ l)
theorem Wr.then {f g : WSt → WSt} {o p : Bool} {l k : List UInt8} (h : Wr f o l) (h2 : Wr g p k) : Wr (fun s => g (f s)) (o && p) (l ++ k) := by
  intro s
  obtain ⟨a1, a2⟩ := h s
  obtain ⟨b1, b2⟩ := h2 (f s)
  refine ⟨by rw [b1, a1]; cases s.2 <;> cases o <;> cases p <;> rfl, fun h => ?_⟩
  rw [Bool.and_eq_true] at h
  rw [b2 h.2, a2 h.1, List.append_assoc]
theorem Wr.as {f : WSt → WSt} {o p : Bool} {l k : List UInt8} (h : Wr f o l) (ho : o = p) (hl : p = true → l = k) : Wr f p k := by
  subst ho
  intro s
  exact ⟨(h s).1, fun e => by rw [(h s).2 e, hl e]⟩
theorem Wr.fold {α : Type} {f : α → WSt → WSt} {o : α → Bool} {l : α → List UInt8} (h : ∀ x, Wr (f x) (o x) (l x)) : ∀ xs : List α, Wr (fun s => xs.foldl (fun s x => f x s) s) (xs.all o) (xs.flatMap l)
  | [] => fun s => by simp
  | x :: xs => by
    have := (h x).then (Wr.fold h xs)
    simpa using this
theorem wr_num (v : Int) (k : Nat) : Wr (wnum v k) (fitsW v k) (big v k) := by
  intro s
  unfold wnum
  cases fitsW v k <;> simp
theorem wr_plain (l : List UInt8) : Wr (wplain l) true l := by
  intro s
  simp [wplain]
theorem fitsW_len1 (n : Nat) : fitsW (n : Int) 1 = decide (n ≤ 255) := by
  unfold fitsW
  rw [Bool.eq_iff_iff]
  simp
  omega
theorem fitsW_len2 (n : Nat) : fitsW (n : Int) 2 = decide (n ≤ 65535) := by
  unfold fitsW
  rw [Bool.eq_iff_iff]
  simp
  omega
theorem fitsW_1 (v : Int) : fitsW v 1 = fits v 255 := by
  unfold fitsW fits
  rw [Bool.eq_iff_iff]
  simp
  omega
theorem fitsW_2 (v : Int) : fitsW v 2 = fits v 65535 := by
  unfold fitsW fits
  rw [Bool.eq_iff_iff]
  simp
  omega
theorem fitsW_0 (v : Int) : fitsW v 0 = (v == 0) := by
  unfold fitsW
  rw [Bool.eq_iff_iff]
  simp
  omega
theorem fitsW_8 (v : Int) : fitsW v 8 = true := by simp [fitsW]
theorem wr_text {l : List UInt8} {size most : Nat} (hs : ∀ n : Nat, n ≤ most → fitsW n size = true) : Wr (wtext l size most) (decide (l.length ≤ most)) (big l.length size ++ l) := by
  intro s
  unfold wtext
  by_cases h : most < l.length
  · rw [if_pos h]
    have : ¬ l.length ≤ most := by omega
    simp [this]
  · rw [if_neg h]
    have h2 : l.length ≤ most := by omega
    have := ((wr_num l.length size).then (wr_plain l)) s
    rw [hs _ h2] at this
    simpa [h2] using this
theorem wr_flag (b : Bool) : Wr (wflag b) true (flag b) := by
  have := wr_num (if b then 1 else 0) 1
  refine this.as ?_ (fun _ => ?_)
  · cases b <;> rfl
  · cases b <;> rfl
theorem wr_op (o : Op) : Wr (wop o) (opOk o) (opB o) := by
  have := (wr_text (l := o.name) (size := 1) (most := 20) (fun n hn => by rw [fitsW_len1]; simp; omega)).then (wr_flag o.once)
  exact this.as (by simp [opOk]) (fun _ => by simp [opB])
theorem flatMap_big1 (l : List Int) : l.flatMap (fun v => big v 1) = l.map low := by
  induction l with
  | nil => rfl
  | cons x r ih =>
    rw [List.flatMap_cons, ih]
    simp [big]
theorem wr_han (h : Han) : Wr (whan h) (hanOk h) (hanB h) := by
  have := ((wr_flag h.shallow).then (wr_num h.ops.length 1)).then (Wr.fold (fun v => wr_num v 1) h.ops)
  refine this.as ?_ (fun _ => ?_)
  · rw [fitsW_len1]
    unfold hanOk
    congr 1
    exact congrArg _ (funext fun v => fitsW_1 v)
  · rw [flatMap_big1]
    rfl
theorem wr_ins (x : Ins) : Wr (wins x) (insOk x) (insB x) := by
  by_cases h : fits x.op 22 = true
  · have := (((wr_num x.op 1).then (wr_num x.a (wa x.op))).then (wr_num x.b (wb x.op))).then (wr_num x.n (wn x.op))
    have e : wins x = fun s => wnum x.n (wn x.op) (wnum x.b (wb x.op) (wnum x.a (wa x.op) (wnum x.op 1 s))) := by
      funext s
      unfold wins
      rw [if_pos h]
    rw [e]
    have ho : fitsW x.op 1 = true := by
      rw [fitsW_1]
      unfold fits at h ⊢
      simp at h ⊢
      omega
    refine this.as ?_ (fun _ => ?_)
    · rw [ho]
      have ka : (x.a == 0) = true → fits x.a 65535 = true := fun h => by rw [beq_iff_eq.1 h]; decide
      have kb : (x.b == 0) = true → fits x.b 65535 = true := fun h => by rw [beq_iff_eq.1 h]; decide
      unfold insOk
      rw [h]
      by_cases h8 : form x.op = 8
      · simp only [wa, wb, wn, h8]
        simp [fitsW_0, fitsW_8]
        generalize fits x.a 65535 = A at *
        generalize fits x.b 65535 = B at *
        generalize (x.a == 0) = p at *
        generalize (x.b == 0) = q at *
        revert ka kb
        cases A <;> cases B <;> cases p <;> cases q <;> simp [fitsW_0]
      · by_cases h1 : form x.op = 1
        · simp only [wa, wb, wn, h1, fitsW_0, fitsW_8]
          simp [fitsW_0, fitsW_2]
          generalize fits x.a 65535 = A at *
          generalize fits x.b 65535 = B at *
          generalize (x.n == 0) = p at *
          generalize (x.b == 0) = q at *
          revert kb
          cases A <;> cases B <;> cases p <;> cases q <;> simp
        · by_cases h2 : form x.op = 2
          · simp only [wa, wb, wn, h2]
            simp [fitsW_0, fitsW_2]
            generalize fits x.a 65535 = A at *
            generalize fits x.b 65535 = B at *
            generalize (x.n == 0) = p at *
            cases A <;> cases B <;> cases p <;> simp
          · simp only [wa, wb, wn, h8, h1, h2]
            have e8 : (form x.op == 8) = false := by simpa using h8
            have e1 : (form x.op == 1) = false := by simpa using h1
            have e2 : (form x.op == 2) = false := by simpa using h2
            rw [e8, e1, e2]
            simp [fitsW_0]
            generalize fits x.a 65535 = A at *
            generalize fits x.b 65535 = B at *
            generalize (x.n == 0) = p at *
            generalize (x.b == 0) = q at *
            generalize (x.a == 0) = r at *
            revert ka kb
            cases A <;> cases B <;> cases p <;> cases q <;> cases r <;> simp
    · unfold insB wa wb wn
      by_cases h8 : form x.op = 8
      · simp [h8, big]
      · by_cases h1 : form x.op = 1
        · simp [h1, big]
        · by_cases h2 : form x.op = 2
          · simp [h2, big]
          · simp [h8, h1, h2, big]
  · have h' : fits x.op 22 = false := by simpa using h
    have hk : insOk x = false := by unfold insOk; rw [h']; simp
    intro s
    unfold wins
    rw [if_neg h, hk]
    simp
theorem wr_fun (f : Fun) : Wr (wfun f) (funOk f) (funB f) := by
  have := (((wr_num f.free 2).then (wr_num f.slots 2)).then (wr_num f.ins.length 2)).then (Wr.fold wr_ins f.ins)
  refine this.as ?_ (fun _ => rfl)
  rw [fitsW_len2, fitsW_2, fitsW_2]
  rfl
theorem wr_code (c : Code) : Wr (wcode c) (ok c) (bytes c) := by
  have := ((((((((wr_plain head).then (wr_text (l := c.shape) (size := 2) (most := 65535) (fun n hn => by rw [fitsW_len2]; simp; omega))).then (wr_num c.ops.length 1)).then (Wr.fold wr_op c.ops)).then (wr_num c.hans.length 2)).then (Wr.fold wr_han c.hans)).then (wr_num c.funs.length 2)).then (Wr.fold wr_fun c.funs))
  refine this.as ?_ (fun _ => ?_)
  · rw [fitsW_len1, fitsW_len2, fitsW_len2]
    unfold ok counts
    generalize decide (c.shape.length ≤ 65535) = a
    generalize decide (c.ops.length ≤ 255) = b
    generalize c.ops.all opOk = d
    generalize decide (c.hans.length ≤ 65535) = e
    generalize c.hans.all hanOk = f
    generalize decide (c.funs.length ≤ 65535) = g
    generalize c.funs.all funOk = h
    revert a b d e f g h
    decide
  · simp [bytes, List.append_assoc]
end Cd
end Go.Proofs.YtpjbfdpblgjmfaaGreatDoor

namespace Go.Proofs.YtpjbfdpblgjmfaaGreatDoor
open Go.RowKit Go.Deep Go.WideShapes

/-- A number of 64 bits. -/
def inR (x : Int) : Prop := -9223372036854775808 ≤ x ∧ x ≤ 9223372036854775807
def Cd.Ins.inR (x : Cd.Ins) : Prop := Go.Proofs.YtpjbfdpblgjmfaaGreatDoor.inR x.op ∧ Go.Proofs.YtpjbfdpblgjmfaaGreatDoor.inR x.a ∧ Go.Proofs.YtpjbfdpblgjmfaaGreatDoor.inR x.b ∧ Go.Proofs.YtpjbfdpblgjmfaaGreatDoor.inR x.n
def Cd.Fun.inR (f : Cd.Fun) : Prop := Go.Proofs.YtpjbfdpblgjmfaaGreatDoor.inR f.free ∧ Go.Proofs.YtpjbfdpblgjmfaaGreatDoor.inR f.slots ∧ ∀ x ∈ f.ins, x.inR
/-- Its lists are lists of Go's. -/
def Cd.Code.lens (C : Cd.Code) : Prop := C.ops.length ≤ maxLen ∧ C.hans.length ≤ maxLen ∧ C.funs.length ≤ maxLen ∧ (∀ h ∈ C.hans, h.ops.length ≤ maxLen) ∧ ∀ f ∈ C.funs, f.ins.length ≤ maxLen
def Cd.Code.inR (C : Cd.Code) : Prop := (∀ h ∈ C.hans, ∀ x ∈ h.ops, Go.Proofs.YtpjbfdpblgjmfaaGreatDoor.inR x) ∧ ∀ f ∈ C.funs, f.inR

theorem plus_plain (g k i : Nat) : (⟨g, k, none⟩ : Addr).add i = ⟨g, k + i, none⟩ := by simp [Addr.add]

/-- Elements of so many cells in a slice. -/
def Elems {α : Type} (w : World) (n : Nat) (R : α → List Value → Prop) (v : Value) (l : List α) : Prop :=
  ∃ (a : Option Addr) (c : Nat), v = .slice a l.length c ∧ l.length ≤ c ∧ (l ≠ [] → ∃ g k, a = some ⟨g, k, none⟩ ∧ ∀ i x, l[i]? = some x → ∃ cs, R x cs ∧ ∀ j u, cs[j]? = some u → w.cell? ⟨g, k + i * n + j, none⟩ = some u)

theorem elems_of {α : Type} [Inhabited α] {H : Type} {enc : TypeId × Value → H} {W : World} {sp : Nat → Bool} {hd : Bool} {t e : TypeId} {n : Nat} {R : α → List Value → Prop} (ht : Tryz.prog.underlying t = some (.slice e)) (hc : Tryz.prog.cellsOf e = n + 1)
    (hR : ∀ (fuel : Nat) (cs : List Value) (x : DataW H × List MemPlace), DataW.trod enc Tryz.prog W 0 sp hd fuel e cs = some x → ∃ a, R a cs)
    {fuel : Nat} {cs : List Value} {x : DataW H × List MemPlace} (h : DataW.trod enc Tryz.prog W 0 sp hd fuel t cs = some x) : ∃ (v : Value) (l : List α), cs = [v] ∧ Elems W (n + 1) R v l ∧ (∀ y ∈ l, ∃ cs, R y cs) ∧ l.length ≤ maxLen := by
  rcases open_slice ht h with ⟨hcs, _⟩ | ⟨a, len, cap, mm, nn, D, Pl, hcs, _, hlc, hcm, hmm, _, hcell⟩
  · exact ⟨_, [], hcs, ⟨none, 0, rfl, Nat.le_refl _, fun h => absurd rfl h⟩, fun y hy => by simp at hy, by simp⟩
  · have hlm : len ≤ mm := by rw [hmm]; split <;> omega
    rw [hc] at hcell
    have each : ∀ i, ∃ y : α, i < len → ∃ cs', R y cs' ∧ W.cells? 0 (a.add (i * (n + 1))) (n + 1) = some cs' := by
      intro i
      by_cases hi : i < len
      · obtain ⟨cs', h1, h2⟩ := hcell i (by omega)
        obtain ⟨y, hy⟩ := hR nn cs' _ h2
        exact ⟨y, fun _ => ⟨cs', hy, h1⟩⟩
      · exact ⟨default, fun h => absurd h hi⟩
    obtain ⟨F, hF⟩ := Classical.axiomOfChoice each
    have hl : ((List.range len).map F).length = len := by simp
    refine ⟨_, (List.range len).map F, hcs, ⟨some a, cap, by rw [hl], by rw [hl]; exact hlc, fun hne => ?_⟩, fun y hy => ?_, by rw [hl]; omega⟩
    · have hpos : 0 < len := by
        rcases Nat.eq_zero_or_pos len with h0 | h0
        · subst h0; simp at hne
        · exact h0
      obtain ⟨b, off, spot⟩ := a
      obtain ⟨cs0, hr0, h00⟩ := hF 0 hpos
      have hs0 := World.cells?_some h00
      have hspot : spot = none := by
        have hlen0 : cs0.length = n + 1 := hs0.2.1
        have c0 := hs0.2.2 0 (by omega)
        rw [List.getElem?_eq_getElem (show 0 < cs0.length by omega)] at c0
        exact World.cell?_spot (w := W) (a := ⟨b, off, spot⟩) (by simpa [Addr.add] using c0)
      subst hspot
      refine ⟨b, off, rfl, fun i y hy => ?_⟩
      have hi : i < len := by
        have := (List.getElem?_eq_some_iff.1 hy).1
        simpa using this
      have hyF : y = F i := by
        rw [List.getElem?_map, List.getElem?_range hi] at hy
        simpa using hy.symm
      obtain ⟨cs', hr, h1⟩ := hF i hi
      refine ⟨cs', by rw [hyF]; exact hr, fun j u hj => ?_⟩
      have hs := World.cells?_some h1
      have hjl : j < n + 1 := by
        have := (List.getElem?_eq_some_iff.1 hj).1
        have hlen : cs'.length = n + 1 := hs.2.1
        omega
      have hcj := hs.2.2 j hjl
      rw [plus_plain, plus_plain] at hcj
      rw [hcj, ← hj]
    · simp only [List.mem_map, List.mem_range] at hy
      obtain ⟨i, hi, rfl⟩ := hy
      obtain ⟨cs', hr, _⟩ := hF i hi
      exact ⟨cs', hr⟩

theorem wf_inR {x : Int} (h : (Lit.int .i64 x).wf = true) : inR x := by
  simp only [Lit.wf, Bool.and_eq_true, decide_eq_true_eq] at h
  obtain ⟨h1, h2⟩ := h
  have e1 : IntKind.i64.min = -9223372036854775808 := by kernel_rfl
  have e2 : IntKind.i64.max = 9223372036854775807 := by kernel_rfl
  rw [e1] at h1
  rw [e2] at h2
  exact ⟨h1, h2⟩

section
variable {H : Type} {enc : TypeId × Value → H} {W : World} {sp : Nat → Bool} {hd : Bool} {fuel : Nat} {cs : List Value} {x : DataW H × List MemPlace}

set_option maxRecDepth 100000 in
theorem ints_of (h : DataW.trod enc Tryz.prog W 0 sp hd fuel 87 cs = some x) : ∃ (v : Value) (l : List Int), cs = [v] ∧ IntsM W v l ∧ (∀ y ∈ l, inR y) ∧ l.length ≤ maxLen := by
  obtain ⟨v, l, rfl, ⟨a, c, h1, h2, h3⟩, h4, hml⟩ := elems_of (n := 0) (R := fun (y : Int) cs => cs = [.int .i64 y] ∧ inR y) Tryz.underlying87 (by kernel_rfl) (fun fuel cs x h => by
    obtain ⟨y, e, _, hw⟩ := DataW.trod_int Tryz.underlying3 h
    exact ⟨y, e, wf_inR hw⟩) h
  refine ⟨v, l, rfl, ⟨a, c, h1, h2, fun hne => ?_⟩, fun y hy => ?_, hml⟩
  · obtain ⟨g, k, e, h5⟩ := h3 hne
    refine ⟨g, k, e, fun i y hy => ?_⟩
    obtain ⟨cs, ⟨rfl, _⟩, h6⟩ := h5 i y hy
    simpa using h6 0 _ rfl
  · obtain ⟨cs, _, h⟩ := h4 y hy
    exact h
set_option maxRecDepth 100000 in
theorem ins_of (h : DataW.trod enc Tryz.prog W 0 sp hd fuel 83 cs = some x) : ∃ (v : Value) (l : List Cd.Ins), cs = [v] ∧ InssM W v l ∧ (∀ y ∈ l, y.inR) ∧ l.length ≤ maxLen := by
  haveI : Inhabited Cd.Ins := ⟨⟨0, 0, 0, 0⟩⟩
  obtain ⟨v, l, rfl, ⟨a, c, h1, h2, h3⟩, h4, hml⟩ := elems_of (n := 3) (R := fun (y : Cd.Ins) cs => cs = [.int .i64 y.op, .int .i64 y.a, .int .i64 y.b, .int .i64 y.n] ∧ y.inR) Tryz.underlying83 (by kernel_rfl) (fun fuel cs x h => by
    obtain ⟨xs, q, hq, hx, hl, hxl, hf⟩ := DataW.trod_struct Tryz.underlying123 h
    have hl : cs.length = 4 := hl.trans (by kernel_rfl)
    have hc3 : Tryz.prog.cellsOf 3 = 1 := by kernel_rfl
    match xs, hxl, cs, hl with
    | [y0, y1, y2, y3], _, [v0, v1, v2, v3], _ =>
      have g0 := hf 0 _ rfl
      have g1 := hf 1 _ rfl
      have g2 := hf 2 _ rfl
      have g3 := hf 3 _ rfl
      simp [hc3] at g0 g1 g2 g3
      obtain ⟨a0, e0, _, w0⟩ := DataW.trod_int Tryz.underlying3 g0
      obtain ⟨a1, e1, _, w1⟩ := DataW.trod_int Tryz.underlying3 g1
      obtain ⟨a2, e2, _, w2⟩ := DataW.trod_int Tryz.underlying3 g2
      obtain ⟨a3, e3, _, w3⟩ := DataW.trod_int Tryz.underlying3 g3
      simp only [List.cons.injEq, and_true] at e0 e1 e2 e3
      subst e0 e1 e2 e3
      exact ⟨⟨a0, a1, a2, a3⟩, rfl, wf_inR w0, wf_inR w1, wf_inR w2, wf_inR w3⟩) h
  refine ⟨v, l, rfl, ⟨a, c, h1, h2, fun hne => ?_⟩, fun y hy => ?_, hml⟩
  · obtain ⟨g, k, e, h5⟩ := h3 hne
    refine ⟨g, k, e, fun i y hy => ?_⟩
    obtain ⟨cs, ⟨rfl, _⟩, h6⟩ := h5 i y hy
    exact ⟨h6 0 _ rfl, h6 1 _ rfl, h6 2 _ rfl, h6 3 _ rfl⟩
  · obtain ⟨cs, _, h⟩ := h4 y hy
    exact h
set_option maxRecDepth 100000 in
theorem ops_of (h : DataW.trod enc Tryz.prog W 0 sp hd fuel 34 cs = some x) : ∃ (v : Value) (l : List Cd.Op), cs = [v] ∧ OpsM W v l ∧ l.length ≤ maxLen := by
  haveI : Inhabited Cd.Op := ⟨⟨[], false⟩⟩
  obtain ⟨v, l, rfl, ⟨a, c, h1, h2, h3⟩, h4, hml⟩ := elems_of (n := 1) (R := fun (y : Cd.Op) cs => cs = [.string ⟨y.name.toArray⟩, .bool y.once]) Tryz.underlying34 (by kernel_rfl) (fun fuel cs x h => by
    obtain ⟨xs, q, hq, hx, hl, hxl, hf⟩ := DataW.trod_struct Tryz.underlying119 h
    have hl : cs.length = 2 := hl.trans (by kernel_rfl)
    have hc9 : Tryz.prog.cellsOf 9 = 1 := by kernel_rfl
    have hc4 : Tryz.prog.cellsOf 4 = 1 := by kernel_rfl
    match xs, hxl, cs, hl with
    | [y0, y1], _, [v0, v1], _ =>
      have g0 := hf 0 _ rfl
      have g1 := hf 1 _ rfl
      simp [hc9, hc4] at g0 g1
      obtain ⟨a0, e0, _, _⟩ := DataW.trod_string Tryz.underlying9 g0
      obtain ⟨a1, e1, _⟩ := DataW.trod_bool Tryz.underlying4 g1
      simp only [List.cons.injEq, and_true] at e0 e1
      subst e0 e1
      exact ⟨⟨a0.data.toList, a1⟩, rfl⟩) h
  refine ⟨v, l, rfl, ⟨a, c, h1, h2, fun hne => ?_⟩, hml⟩
  obtain ⟨g, k, e, h5⟩ := h3 hne
  refine ⟨g, k, e, fun i y hy => ?_⟩
  obtain ⟨cs, rfl, h6⟩ := h5 i y hy
  exact ⟨h6 0 _ rfl, h6 1 _ rfl⟩
set_option maxRecDepth 100000 in
theorem hans_of (h : DataW.trod enc Tryz.prog W 0 sp hd fuel 35 cs = some x) : ∃ (v : Value) (l : List Cd.Han), cs = [v] ∧ HansM W v l ∧ (∀ y ∈ l, (∀ z ∈ y.ops, inR z) ∧ y.ops.length ≤ maxLen) ∧ l.length ≤ maxLen := by
  haveI : Inhabited Cd.Han := ⟨⟨false, []⟩⟩
  obtain ⟨v, l, rfl, ⟨a, c, h1, h2, h3⟩, h4, hml⟩ := elems_of (n := 1) (R := fun (y : Cd.Han) cs => ∃ u, cs = [.bool y.shallow, u] ∧ IntsM W u y.ops ∧ (∀ z ∈ y.ops, inR z) ∧ y.ops.length ≤ maxLen) Tryz.underlying35 (by kernel_rfl) (fun fuel cs x h => by
    obtain ⟨xs, q, hq, hx, hl, hxl, hf⟩ := DataW.trod_struct Tryz.underlying121 h
    have hl : cs.length = 2 := hl.trans (by kernel_rfl)
    have hc4 : Tryz.prog.cellsOf 4 = 1 := by kernel_rfl
    have hc8 : Tryz.prog.cellsOf 87 = 1 := by kernel_rfl
    match xs, hxl, cs, hl with
    | [y0, y1], _, [v0, v1], _ =>
      have g0 := hf 0 _ rfl
      have g1 := hf 1 _ rfl
      simp [hc8, hc4] at g0 g1
      obtain ⟨a0, e0, _⟩ := DataW.trod_bool Tryz.underlying4 g0
      obtain ⟨u, l, e1, m1, m2⟩ := ints_of g1
      simp only [List.cons.injEq, and_true] at e0 e1
      subst e0 e1
      exact ⟨⟨a0, l⟩, _, rfl, m1, m2⟩) h
  refine ⟨v, l, rfl, ⟨a, c, h1, h2, fun hne => ?_⟩, fun y hy => ?_, hml⟩
  · obtain ⟨g, k, e, h5⟩ := h3 hne
    refine ⟨g, k, e, fun i y hy => ?_⟩
    obtain ⟨cs, ⟨u, rfl, m1, _⟩, h6⟩ := h5 i y hy
    exact ⟨h6 0 _ rfl, u, h6 1 _ rfl, m1⟩
  · obtain ⟨cs, u, _, _, h⟩ := h4 y hy
    exact h
set_option maxRecDepth 100000 in
theorem funs_of (h : DataW.trod enc Tryz.prog W 0 sp hd fuel 36 cs = some x) : ∃ (v : Value) (l : List Cd.Fun), cs = [v] ∧ FunsM W v l ∧ (∀ y ∈ l, y.inR ∧ y.ins.length ≤ maxLen) ∧ l.length ≤ maxLen := by
  haveI : Inhabited Cd.Fun := ⟨⟨0, 0, []⟩⟩
  obtain ⟨v, l, rfl, ⟨a, c, h1, h2, h3⟩, h4, hml⟩ := elems_of (n := 2) (R := fun (y : Cd.Fun) cs => ∃ u, cs = [.int .i64 y.free, .int .i64 y.slots, u] ∧ InssM W u y.ins ∧ y.inR ∧ y.ins.length ≤ maxLen) Tryz.underlying36 (by kernel_rfl) (fun fuel cs x h => by
    obtain ⟨xs, q, hq, hx, hl, hxl, hf⟩ := DataW.trod_struct Tryz.underlying85 h
    have hl : cs.length = 3 := hl.trans (by kernel_rfl)
    have hc3 : Tryz.prog.cellsOf 3 = 1 := by kernel_rfl
    have hc8 : Tryz.prog.cellsOf 83 = 1 := by kernel_rfl
    match xs, hxl, cs, hl with
    | [y0, y1, y2], _, [v0, v1, v2], _ =>
      have g0 := hf 0 _ rfl
      have g1 := hf 1 _ rfl
      have g2 := hf 2 _ rfl
      simp [hc8, hc3] at g0 g1 g2
      obtain ⟨a0, e0, _, w0⟩ := DataW.trod_int Tryz.underlying3 g0
      obtain ⟨a1, e1, _, w1⟩ := DataW.trod_int Tryz.underlying3 g1
      obtain ⟨u, l, e2, m1, m2, m3⟩ := ins_of g2
      simp only [List.cons.injEq, and_true] at e0 e1 e2
      subst e0 e1 e2
      exact ⟨⟨a0, a1, l⟩, _, rfl, m1, ⟨wf_inR w0, wf_inR w1, m2⟩, m3⟩) h
  refine ⟨v, l, rfl, ⟨a, c, h1, h2, fun hne => ?_⟩, fun y hy => ?_, hml⟩
  · obtain ⟨g, k, e, h5⟩ := h3 hne
    refine ⟨g, k, e, fun i y hy => ?_⟩
    obtain ⟨cs, ⟨u, rfl, m1, _⟩, h6⟩ := h5 i y hy
    exact ⟨h6 0 _ rfl, h6 1 _ rfl, u, h6 2 _ rfl, m1⟩
  · obtain ⟨cs, u, _, _, h⟩ := h4 y hy
    exact h
set_option maxRecDepth 100000 in
theorem code_of (h : DataW.trod enc Tryz.prog W 0 sp hd fuel 38 cs = some x) : ∃ (C : Cd.Code) (b c d : Value), cs = [.string ⟨C.shape.toArray⟩, b, c, d] ∧ CodeM W b c d C ∧ C.inR ∧ C.shape.length ≤ maxLen ∧ C.lens := by
  obtain ⟨xs, q, hq, hx, hl, hxl, hf⟩ := DataW.trod_struct Tryz.underlying38 h
  have hl : cs.length = 4 := hl.trans (by kernel_rfl)
  have hc0 : Tryz.prog.cellsOf 9 = 1 := by kernel_rfl
  have hc1 : Tryz.prog.cellsOf 34 = 1 := by kernel_rfl
  have hc2 : Tryz.prog.cellsOf 35 = 1 := by kernel_rfl
  have hc3 : Tryz.prog.cellsOf 36 = 1 := by kernel_rfl
  match xs, hxl, cs, hl with
  | [y0, y1, y2, y3], _, [v0, v1, v2, v3], _ =>
    have g0 := hf 0 _ rfl
    have g1 := hf 1 _ rfl
    have g2 := hf 2 _ rfl
    have g3 := hf 3 _ rfl
    simp [hc0, hc1, hc2, hc3] at g0 g1 g2 g3
    obtain ⟨s, e0, _, hs⟩ := DataW.trod_string Tryz.underlying9 g0
    obtain ⟨u1, l1, e1, m1, n1⟩ := ops_of g1
    obtain ⟨u2, l2, e2, m2, i2, n2⟩ := hans_of g2
    obtain ⟨u3, l3, e3, m3, i3, n3⟩ := funs_of g3
    simp only [List.cons.injEq, and_true] at e0 e1 e2 e3
    subst e0 e1 e2 e3
    exact ⟨⟨s.data.toList, l1, l2, l3⟩, _, _, _, rfl, ⟨m1, m2, m3⟩, ⟨fun y hy => (i2 y hy).1, fun y hy => (i3 y hy).1⟩, hs, n1, n2, n3, fun y hy => (i2 y hy).2, fun y hy => (i3 y hy).2⟩
end
end Go.Proofs.YtpjbfdpblgjmfaaGreatDoor

namespace Go.Proofs.YtpjbfdpblgjmfaaGreatDoor
open Go.RowKit Go.Lib

theorem isOp_any (op : Int) (w : World) :
    Calls Tryz.prog 95 #[.int .i64 op] w fun e w' => e = .returned (.bool (Cd.fits op 22)) ∧ w' = w := by
  go_enter Tryz.func95, Tryz.ntmps95
  go_wp2
  all_goals
    go_ret
    refine ⟨ret_bool ?_, rfl⟩
    unfold Cd.fits
    rw [Bool.eq_iff_iff]
    simp
    try omega

set_option maxHeartbeats 2000000 in
theorem widths_any (op : Int) (w : World) :
    Calls Tryz.prog 104 #[.int .i64 op] w fun e w' => e = .returned (.tuple #[.int .i64 (Cd.wa op : Nat), .int .i64 (Cd.wb op : Nat), .int .i64 (Cd.wn op : Nat)]) ∧ w' = w := by
  go_enter Tryz.func104, Tryz.ntmps104
  go_wp2
  all_goals first
    | (refine bodyPost_ret (v := .tuple #[.int .i64 0, .int .i64 0, .int .i64 8]) ?_ rfl ⟨?_, rfl⟩
       · simp [results, Tryz.results104, go_sem]
       · simp_all [Cd.wa, Cd.wb, Cd.wn, Cd.form])
    | (refine bodyPost_ret (v := .tuple #[.int .i64 2, .int .i64 2, .int .i64 0]) ?_ rfl ⟨?_, rfl⟩
       · simp [results, Tryz.results104, go_sem]
       · simp_all [Cd.wa, Cd.wb, Cd.wn, Cd.form])
    | (refine bodyPost_ret (v := .tuple #[.int .i64 2, .int .i64 0, .int .i64 0]) ?_ rfl ⟨?_, rfl⟩
       · simp [results, Tryz.results104, go_sem]
       · simp_all [Cd.wa, Cd.wb, Cd.wn, Cd.form])
    | (refine bodyPost_ret (v := .tuple #[.int .i64 0, .int .i64 0, .int .i64 0]) ?_ rfl ⟨?_, rfl⟩
       · simp [results, Tryz.results104, go_sem]
       · simp_all [Cd.wa, Cd.wb, Cd.wn, Cd.form])
end Go.Proofs.YtpjbfdpblgjmfaaGreatDoor

namespace Go.Proofs.YtpjbfdpblgjmfaaGreatDoor
open Go.RowKit Go.Lib

/-- The three operands, one after the other. -/
def insA (s : List UInt8) (p : Nat) (op : Int) : Nat × Cd.Rd := Cd.Rd.num s (Cd.wa op) (Cd.Rd.at_ p)
def insBb (s : List UInt8) (p : Nat) (op : Int) : Nat × Cd.Rd := (insA s p op).2.num s (Cd.wb op)
def insN (s : List UInt8) (p : Nat) (op : Int) : Nat × Cd.Rd := (insBb s p op).2.num s (Cd.wn op)
theorem num_zero (s : List UInt8) (p : Nat) (hp : p ≤ s.length) : Cd.Rd.num s 0 (Cd.Rd.at_ p) = (0, Cd.Rd.at_ p) := by
  unfold Cd.Rd.num
  rw [if_pos (show (Cd.Rd.at_ p).has s 0 from ⟨rfl, hp⟩)]
  simp [Cd.num, Cd.Rd.at_]
theorem ins_chain (s : List UInt8) (p : Nat) (op : Nat) (hp : p ≤ s.length) :
    (if Cd.form op = 8 then ((⟨op, 0, 0, Cd.sgn ((Cd.Rd.at_ p).num s 8).1⟩ : Cd.Ins), ((Cd.Rd.at_ p).num s 8).2)
      else if Cd.form op = 1 then (⟨op, ((Cd.Rd.at_ p).num s 2).1, 0, 0⟩, ((Cd.Rd.at_ p).num s 2).2)
      else if Cd.form op = 2 then (⟨op, ((Cd.Rd.at_ p).num s 2).1, (((Cd.Rd.at_ p).num s 2).2.num s 2).1, 0⟩, (((Cd.Rd.at_ p).num s 2).2.num s 2).2)
      else (⟨op, 0, 0, 0⟩, Cd.Rd.at_ p)) = (⟨op, (insA s p op).1, (insBb s p op).1, Cd.sgn (insN s p op).1⟩, (insN s p op).2) := by
  have z := num_zero s p hp
  have s0 : Cd.sgn 0 = 0 := rfl
  unfold insN insBb insA Cd.wa Cd.wb Cd.wn
  by_cases h8 : Cd.form op = 8
  · simp [h8, z]
  · by_cases h1 : Cd.form op = 1
    · have z2 : ∀ r : Cd.Rd, r = (Cd.Rd.num s 2 (Cd.Rd.at_ p)).2 → r.num s 0 = (0, r) := fun r hr => by
        by_cases hk : r.fk = 0
        · have e := num_fa s 2 p (by rw [← hr]; exact hk)
          have hl := num_le s 2 p hp
          rw [← hr] at e hl
          rw [e] at hl ⊢
          exact num_zero s _ hl
        · exact bad_num' hk
      simp [h1, z2 _ rfl, s0]
    · by_cases h2 : Cd.form op = 2
      · have z3 : ∀ r : Cd.Rd, r = ((Cd.Rd.num s 2 (Cd.Rd.at_ p)).2.num s 2).2 → r.num s 0 = (0, r) := fun r hr => by
          by_cases hk : r.fk = 0
          · by_cases hk1 : (Cd.Rd.num s 2 (Cd.Rd.at_ p)).2.fk = 0
            · have e1 := num_fa s 2 p hk1
              have hl1 := num_le s 2 p hp
              rw [e1] at hr hl1
              have e := num_fa s 2 (p + 2) (by rw [← hr]; exact hk)
              have hl := num_le s 2 (p + 2) hl1
              rw [← hr] at e hl
              rw [e] at hl ⊢
              exact num_zero s _ hl
            · rw [bad_num' hk1] at hr
              rw [hr] at hk
              exact absurd hk hk1
          · exact bad_num' hk
        simp [h2, z3 _ rfl, s0]
      · simp [h8, h1, h2, z, s0]
def InsPost (b : Nat) (s : List UInt8) (W : World) := EPost RIns (fun cs => ∃ a c d f : Int, cs = [.int .i64 a, .int .i64 c, .int .i64 d, .int .i64 f]) (fun cs => .agg cs.toArray) b s W
theorem ins_finP {b : Nat} {s : List UInt8} {W w' : World} {q : Cd.Ins × Cd.Rd} {a' : Act} {oB : Nat} {x : Cd.Ins} {ev : Value} (hd : a'.defers = []) (h2 : a'.tmps[2]? = some (.pointer (some ⟨oB, 0, none⟩))) (h3 : a'.tmps[3]? = some ev) (hB : w'.heap[oB]? = some (.cells #[.int .i64 x.op, .int .i64 x.a, .int .i64 x.b, .int .i64 x.n] 123 (0, 0))) (hev : errV q.2 = ev) (hp : PM w' b s q.2.pos) (hg : W.grownBy w' (some b)) (hq : q.2.pos ≤ s.length) (hr : q.2.fk = 0 → q.2.fa = 0 ∧ q.1 = x) : bodyPost Tryz.prog Tryz.f90 (InsPost b s W q) .ret a' w' := by
  have c0 : w'.cell? ⟨oB, 0, none⟩ = some (.int .i64 x.op) := by simp [World.cell?, hB]
  have c1 : w'.cell? ⟨oB, 1, none⟩ = some (.int .i64 x.a) := by simp [World.cell?, hB]
  have c2 : w'.cell? ⟨oB, 2, none⟩ = some (.int .i64 x.b) := by simp [World.cell?, hB]
  have c3 : w'.cell? ⟨oB, 3, none⟩ = some (.int .i64 x.n) := by simp [World.cell?, hB]
  refine bodyPost_ret (v := .tuple #[.agg #[.int .i64 x.op, .int .i64 x.a, .int .i64 x.b, .int .i64 x.n], ev]) ?_ hd ⟨[.int .i64 x.op, .int .i64 x.a, .int .i64 x.b, .int .i64 x.n], ⟨_, _, _, _, rfl⟩, by rw [hev], hp, hg, hq, fun h => ⟨(hr h).1, fun _ => False, by rw [(hr h).2]; rfl, fun k hk => hk.elim⟩⟩
  simp [results, Tryz.results90, go_sem, h2, h3, c0, c1, c2, c3]
end Go.Proofs.YtpjbfdpblgjmfaaGreatDoor
