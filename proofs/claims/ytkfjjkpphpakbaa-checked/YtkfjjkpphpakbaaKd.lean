/-
  The program's checker in memory; operands, takes.
-/
import Derived.Test.YtkfjjkpphpakbaaKc
set_option linter.unusedVariables false
set_option linter.unusedSimpArgs false
namespace Go.Proofs.Ytkfjjkpphpakbaa
open Go.RowKit Go.Maps

/-- A checker in the block kB. -/
structure Kk (C : Cd.Code) (f : Cd.Fun) (vb vc vd v : Value) (kB fn : Nat) (kn : Value) (w : World) : Prop where
  cm : CodeM w vb vc vd C
  im : InssM w v f.ins
  hk : w.heap[kB]? = some (.cells #[.string ⟨C.shape.toArray⟩, vb, vc, vd, .int .i64 fn, v, kn] 57 (0, 0))
  hf : C.funs[fn]? = some f
theorem Kk.keep {C : Cd.Code} {f : Cd.Fun} {vb vc vd v : Value} {kB fn : Nat} {kn : Value} {w w' : World} (h : Kk C f vb vc vd v kB fn kn w) (hb : Below w.heap.size w w') : Kk C f vb vc vd v kB fn kn w' :=
  ⟨h.cm.keep hb, h.im.keep hb, (hb.block kB (Array.getElem?_eq_some_iff.1 h.hk).1).trans h.hk, h.hf⟩
theorem Kk.cells {C : Cd.Code} {f : Cd.Fun} {vb vc vd v : Value} {kB fn : Nat} {kn : Value} {w : World} (h : Kk C f vb vc vd v kB fn kn w) : (w.cell? ⟨kB, 1, none⟩ = some vb ∧ w.cell? ⟨kB, 2, none⟩ = some vc ∧ w.cell? ⟨kB, 3, none⟩ = some vd) ∧ w.cell? ⟨kB, 4, none⟩ = some (.int .i64 fn) ∧ w.cell? ⟨kB, 5, none⟩ = some v ∧ w.cell? ⟨kB, 6, none⟩ = some kn ∧ ∀ i, w.frozen? ⟨kB, i, none⟩ = false := by
  have h1 := h.hk
  refine ⟨⟨?_, ?_, ?_⟩, ?_, ?_, ?_, fun i => ?_⟩ <;> simp [World.cell?, World.frozen?, h1]
theorem Kk.lt {C : Cd.Code} {f : Cd.Fun} {vb vc vd v : Value} {kB fn : Nat} {kn : Value} {w : World} (h : Kk C f vb vc vd v kB fn kn w) : kB < w.heap.size := (Array.getElem?_eq_some_iff.1 h.hk).1

def OpdPost (C : Cd.Code) (f : Cd.Fun) (fn : Nat) (x : Cd.Ins) (w : World) (e : Ending) (w' : World) : Prop := e = .returned (.int .i64 (Cd.opd C f (decide (fn = 0)) x)) ∧ Below w.heap.size w w'
theorem opd_fin {C : Cd.Code} {f : Cd.Fun} {fn : Nat} {x : Cd.Ins} {w w' : World} {a' : Act} {e : Int} (hd : a'.defers = []) (h4 : a'.tmps[4]? = some (.int .i64 e)) (hv : Cd.opd C f (decide (fn = 0)) x = e) (hb : Below w.heap.size w w') : bodyPost Try.prog Try.f27 (OpdPost C f fn x w) .ret a' w' := by
  refine bodyPost_ret (v := .int .i64 e) ?_ hd ⟨?_, hb⟩
  · simp [results, Try.results27, go_sem, h4]
  · rw [hv]
theorem below_drewN {w w' : World} {n B : Nat} (h : Below B w w') : Below B w (w'.drewN n) := ⟨h.os, h.tape, h.output, h.size, h.block⟩

set_option maxRecDepth 100000 in
set_option maxHeartbeats 8000000 in
theorem operands_c (C : Cd.Code) (f : Cd.Fun) (vb vc vd v : Value) (kB fn : Nat) (kn : Value) (x : Cd.Ins) (w : World) (hK : Kk C f vb vc vd v kB fn kn w) (hfl : fn < 65535) (hop : Cd.fits x.op 22 = true) (ha : 0 ≤ x.a ∧ x.a ≤ 65535) :
    Calls Try.prog 27 #[.pointer (some ⟨kB, 0, none⟩), insV2 x] w (OpdPost C f fn x w) := by
  obtain ⟨op, a, b, n⟩ := x
  dsimp only at hop ha
  unfold insV2
  dsimp only
  have hkB := hK.lt
  obtain ⟨⟨c1, c2, c3⟩, c4, c5, c6, _⟩ := hK.cells
  obtain ⟨⟨ao, co, rfl, hco, _⟩, ⟨ah, ch, rfl, hch, _⟩, ⟨af, cf, rfl, hcf, hx3⟩⟩ := hK.cm
  obtain ⟨ai, ci, rfl, hci, _⟩ := hK.im
  have hfm := hK.hf
  have hfn : fn < C.funs.length := (List.getElem?_eq_some_iff.1 hfm).1
  obtain ⟨g, k, rfl, hcell⟩ := hx3 (fun e => by rw [e] at hfn; simp at hfn)
  obtain ⟨q0, q1, _⟩ := hcell fn f hfm
  have hgl : g < w.heap.size := block_lt_of_cell q0
  have hfl2 : (fn : Int) < C.funs.length := by omega
  have hbA := hid ((Below.refl w.heap.size w).alloc (Nat.le_refl _) (.cells #[.int .i64 op, .int .i64 a, .int .i64 b, .int .i64 n] 32))
  clear hcell hx3 hK hfm
  have hop2 : 0 ≤ op ∧ op ≤ 22 := by unfold Cd.fits at hop; simpa using hop
  have hcs : op = 0 ∨ op = 5 ∨ op = 6 ∨ op = 7 ∨ op = 8 ∨ op = 9 ∨ op = 10 ∨ op = 11 ∨ op = 15 ∨ op = 16 ∨ op = 17 ∨ op = 20 ∨ op = 18 ∨ op = 19 ∨ op = 1 ∨ op = 2 ∨ op = 3 ∨ op = 4 ∨ op = 14 ∨ op = 12 ∨ op = 13 ∨ op = 21 ∨ op = 22 := by omega
  clear hop
  rcases hcs with h | h | h | h | h | h | h | h | h | h | h | h | h | h | h | h | h | h | h | h | h | h | h
  · subst h
    go_enter Try.func27, Try.ntmps27
    go_wp2_with (first
      | (go_at_call 35; refine (isOpc_any _ _).mono ?_; rintro en w9 ⟨rfl, hw9⟩; obtain rfl := hw9.symm; rw [show Cd.fits 0 22 = true by decide])
      | (go_at_call 34; refine (kind_c _ _ _).mono ?_; rintro en w9 ⟨rfl, hw9⟩; obtain rfl := hw9.symm)
      | go_in)
    exact opd_fin rfl rfl (by simp [Cd.opd]) hbA.out
  · subst h
    go_enter Try.func27, Try.ntmps27
    go_wp2_with (first
      | (go_at_call 35; refine (isOpc_any _ _).mono ?_; rintro en w9 ⟨rfl, hw9⟩; obtain rfl := hw9.symm; rw [show Cd.fits 5 22 = true by decide])
      | (go_at_call 34; refine (kind_c _ _ _).mono ?_; rintro en w9 ⟨rfl, hw9⟩; obtain rfl := hw9.symm)
      | go_in)
    exact opd_fin rfl rfl (by simp [Cd.opd]) hbA.out
  · subst h
    go_enter Try.func27, Try.ntmps27
    go_wp2_with (first
      | (go_at_call 35; refine (isOpc_any _ _).mono ?_; rintro en w9 ⟨rfl, hw9⟩; obtain rfl := hw9.symm; rw [show Cd.fits 6 22 = true by decide])
      | (go_at_call 34; refine (kind_c _ _ _).mono ?_; rintro en w9 ⟨rfl, hw9⟩; obtain rfl := hw9.symm)
      | go_in)
    exact opd_fin rfl rfl (by simp [Cd.opd]) hbA.out
  · subst h
    go_enter Try.func27, Try.ntmps27
    go_wp2_with (first
      | (go_at_call 35; refine (isOpc_any _ _).mono ?_; rintro en w9 ⟨rfl, hw9⟩; obtain rfl := hw9.symm; rw [show Cd.fits 7 22 = true by decide])
      | (go_at_call 34; refine (kind_c _ _ _).mono ?_; rintro en w9 ⟨rfl, hw9⟩; obtain rfl := hw9.symm)
      | go_in)
    exact opd_fin rfl rfl (by simp [Cd.opd]) hbA.out
  · subst h
    go_enter Try.func27, Try.ntmps27
    go_wp2_with (first
      | (go_at_call 35; refine (isOpc_any _ _).mono ?_; rintro en w9 ⟨rfl, hw9⟩; obtain rfl := hw9.symm; rw [show Cd.fits 8 22 = true by decide])
      | (go_at_call 34; refine (kind_c _ _ _).mono ?_; rintro en w9 ⟨rfl, hw9⟩; obtain rfl := hw9.symm)
      | go_in)
    exact opd_fin rfl rfl (by simp [Cd.opd]) hbA.out
  · subst h
    go_enter Try.func27, Try.ntmps27
    go_wp2_with (first
      | (go_at_call 35; refine (isOpc_any _ _).mono ?_; rintro en w9 ⟨rfl, hw9⟩; obtain rfl := hw9.symm; rw [show Cd.fits 9 22 = true by decide])
      | (go_at_call 34; refine (kind_c _ _ _).mono ?_; rintro en w9 ⟨rfl, hw9⟩; obtain rfl := hw9.symm)
      | go_in)
    exact opd_fin rfl rfl (by simp [Cd.opd]) hbA.out
  · subst h
    go_enter Try.func27, Try.ntmps27
    go_wp2_with (first
      | (go_at_call 35; refine (isOpc_any _ _).mono ?_; rintro en w9 ⟨rfl, hw9⟩; obtain rfl := hw9.symm; rw [show Cd.fits 10 22 = true by decide])
      | (go_at_call 34; refine (kind_c _ _ _).mono ?_; rintro en w9 ⟨rfl, hw9⟩; obtain rfl := hw9.symm)
      | go_in)
    exact opd_fin rfl rfl (by simp [Cd.opd]) hbA.out
  · subst h
    go_enter Try.func27, Try.ntmps27
    go_wp2_with (first
      | (go_at_call 35; refine (isOpc_any _ _).mono ?_; rintro en w9 ⟨rfl, hw9⟩; obtain rfl := hw9.symm; rw [show Cd.fits 11 22 = true by decide])
      | (go_at_call 34; refine (kind_c _ _ _).mono ?_; rintro en w9 ⟨rfl, hw9⟩; obtain rfl := hw9.symm)
      | go_in)
    exact opd_fin rfl rfl (by simp [Cd.opd]) hbA.out
  · subst h
    go_enter Try.func27, Try.ntmps27
    go_wp2_with (first
      | (go_at_call 35; refine (isOpc_any _ _).mono ?_; rintro en w9 ⟨rfl, hw9⟩; obtain rfl := hw9.symm; rw [show Cd.fits 15 22 = true by decide])
      | (go_at_call 34; refine (kind_c _ _ _).mono ?_; rintro en w9 ⟨rfl, hw9⟩; obtain rfl := hw9.symm)
      | go_in)
    exact opd_fin rfl rfl (by simp [Cd.opd]) hbA.out
  · subst h
    go_enter Try.func27, Try.ntmps27
    go_wp2_with (first
      | (go_at_call 35; refine (isOpc_any _ _).mono ?_; rintro en w9 ⟨rfl, hw9⟩; obtain rfl := hw9.symm; rw [show Cd.fits 16 22 = true by decide])
      | (go_at_call 34; refine (kind_c _ _ _).mono ?_; rintro en w9 ⟨rfl, hw9⟩; obtain rfl := hw9.symm)
      | go_in)
    exact opd_fin rfl rfl (by simp [Cd.opd]) hbA.out
  · subst h
    go_enter Try.func27, Try.ntmps27
    go_wp2_with (first
      | (go_at_call 35; refine (isOpc_any _ _).mono ?_; rintro en w9 ⟨rfl, hw9⟩; obtain rfl := hw9.symm; rw [show Cd.fits 17 22 = true by decide])
      | (go_at_call 34; refine (kind_c _ _ _).mono ?_; rintro en w9 ⟨rfl, hw9⟩; obtain rfl := hw9.symm)
      | go_in)
    exact opd_fin rfl rfl (by simp [Cd.opd]) hbA.out
  · subst h
    go_enter Try.func27, Try.ntmps27
    go_wp2_with (first
      | (go_at_call 35; refine (isOpc_any _ _).mono ?_; rintro en w9 ⟨rfl, hw9⟩; obtain rfl := hw9.symm; rw [show Cd.fits 20 22 = true by decide])
      | (go_at_call 34; refine (kind_c _ _ _).mono ?_; rintro en w9 ⟨rfl, hw9⟩; obtain rfl := hw9.symm)
      | go_in)
    exact opd_fin rfl rfl (by simp [Cd.opd]) hbA.out
  · subst h
    by_cases hbel : a < (f.ins.length : Int)
    · have hbd : decide ((0 : Int) ≤ a ∧ a < (f.ins.length : Int)) = true := by simp; omega
      have QB := fun (W : World) => below_c a (f.ins.length : Int) W
      rw [hbd] at QB
      have QK := fun (W : World) => kind_c true 16 W
      simp only [if_true, Bool.false_eq_true, if_false] at QK
      clear hbd
      go_enter Try.func27, Try.ntmps27
      go_wp2
      go_quiet (first
        | (go_at_call 26; exact Calls.quiet_of_same (QB _))
        | (go_at_call 34; exact Calls.quiet_of_same (QK _)))
      go_wp2
      exact opd_fin rfl rfl (by simp [Cd.opd]; omega) (below_drewN hbA.out)
    · have hbd : decide ((0 : Int) ≤ a ∧ a < (f.ins.length : Int)) = false := by simp; omega
      have QB := fun (W : World) => below_c a (f.ins.length : Int) W
      rw [hbd] at QB
      have QK := fun (W : World) => kind_c false 16 W
      simp only [if_true, Bool.false_eq_true, if_false] at QK
      clear hbd
      go_enter Try.func27, Try.ntmps27
      go_wp2
      go_quiet (first
        | (go_at_call 26; exact Calls.quiet_of_same (QB _))
        | (go_at_call 34; exact Calls.quiet_of_same (QK _)))
      go_wp2
      exact opd_fin rfl rfl (by simp [Cd.opd]; omega) (below_drewN hbA.out)
  · subst h
    by_cases hbel : a < (f.ins.length : Int)
    · have hbd : decide ((0 : Int) ≤ a ∧ a < (f.ins.length : Int)) = true := by simp; omega
      have QB := fun (W : World) => below_c a (f.ins.length : Int) W
      rw [hbd] at QB
      have QK := fun (W : World) => kind_c true 16 W
      simp only [if_true, Bool.false_eq_true, if_false] at QK
      clear hbd
      go_enter Try.func27, Try.ntmps27
      go_wp2
      go_quiet (first
        | (go_at_call 26; exact Calls.quiet_of_same (QB _))
        | (go_at_call 34; exact Calls.quiet_of_same (QK _)))
      go_wp2
      exact opd_fin rfl rfl (by simp [Cd.opd]; omega) (below_drewN hbA.out)
    · have hbd : decide ((0 : Int) ≤ a ∧ a < (f.ins.length : Int)) = false := by simp; omega
      have QB := fun (W : World) => below_c a (f.ins.length : Int) W
      rw [hbd] at QB
      have QK := fun (W : World) => kind_c false 16 W
      simp only [if_true, Bool.false_eq_true, if_false] at QK
      clear hbd
      go_enter Try.func27, Try.ntmps27
      go_wp2
      go_quiet (first
        | (go_at_call 26; exact Calls.quiet_of_same (QB _))
        | (go_at_call 34; exact Calls.quiet_of_same (QK _)))
      go_wp2
      exact opd_fin rfl rfl (by simp [Cd.opd]; omega) (below_drewN hbA.out)
  · subst h
    by_cases hz : fn = 0
    · subst hz
      go_enter Try.func27, Try.ntmps27
      go_wp2_with (first
        | (go_at_call 34; refine (kind_c _ _ _).mono ?_; rintro en w9 ⟨rfl, hw9⟩; obtain rfl := hw9.symm)
        | go_in)
      exact opd_fin rfl rfl (by simp [Cd.opd]) hbA.out
    · have hz2 : ((fn : Int) != 0) = true := by simp; omega
      have HZ := hid hz
      clear hz
      go_enter Try.func27, Try.ntmps27
      go_wp2_with (first
        | (go_at_call 34; refine (kind_c _ _ _).mono ?_; rintro en w9 ⟨rfl, hw9⟩; obtain rfl := hw9.symm)
        | go_in)
      exact opd_fin rfl rfl (by simp [Cd.opd, HZ.out]) hbA.out
  · subst h
    by_cases hbel : a < f.free
    · have hbd : decide ((0 : Int) ≤ a ∧ a < f.free) = true := by simp; omega
      have QB := fun (W : World) => below_c a f.free W
      rw [hbd] at QB
      have QK := fun (W : World) => kind_c true 14 W
      simp only [if_true, Bool.false_eq_true, if_false] at QK
      clear hbd
      go_enter Try.func27, Try.ntmps27
      go_wp2
      go_quiet (first
        | (go_at_call 26; exact Calls.quiet_of_same (QB _))
        | (go_at_call 34; exact Calls.quiet_of_same (QK _)))
      go_wp2
      exact opd_fin rfl rfl (by simp [Cd.opd]; omega) (below_drewN hbA.out)
    · have hbd : decide ((0 : Int) ≤ a ∧ a < f.free) = false := by simp; omega
      have QB := fun (W : World) => below_c a f.free W
      rw [hbd] at QB
      have QK := fun (W : World) => kind_c false 14 W
      simp only [if_true, Bool.false_eq_true, if_false] at QK
      clear hbd
      go_enter Try.func27, Try.ntmps27
      go_wp2
      go_quiet (first
        | (go_at_call 26; exact Calls.quiet_of_same (QB _))
        | (go_at_call 34; exact Calls.quiet_of_same (QK _)))
      go_wp2
      exact opd_fin rfl rfl (by simp [Cd.opd]; omega) (below_drewN hbA.out)
  · subst h
    by_cases hbel : a < f.slots
    · have hbd : decide ((0 : Int) ≤ a ∧ a < f.slots) = true := by simp; omega
      have QB := fun (W : World) => below_c a f.slots W
      rw [hbd] at QB
      have QK := fun (W : World) => kind_c true 14 W
      simp only [if_true, Bool.false_eq_true, if_false] at QK
      clear hbd
      go_enter Try.func27, Try.ntmps27
      go_wp2
      go_quiet (first
        | (go_at_call 26; exact Calls.quiet_of_same (QB _))
        | (go_at_call 34; exact Calls.quiet_of_same (QK _)))
      go_wp2
      exact opd_fin rfl rfl (by simp [Cd.opd]; omega) (below_drewN hbA.out)
    · have hbd : decide ((0 : Int) ≤ a ∧ a < f.slots) = false := by simp; omega
      have QB := fun (W : World) => below_c a f.slots W
      rw [hbd] at QB
      have QK := fun (W : World) => kind_c false 14 W
      simp only [if_true, Bool.false_eq_true, if_false] at QK
      clear hbd
      go_enter Try.func27, Try.ntmps27
      go_wp2
      go_quiet (first
        | (go_at_call 26; exact Calls.quiet_of_same (QB _))
        | (go_at_call 34; exact Calls.quiet_of_same (QK _)))
      go_wp2
      exact opd_fin rfl rfl (by simp [Cd.opd]; omega) (below_drewN hbA.out)
  · subst h
    by_cases hbel : a < f.slots
    · have hbd : decide ((0 : Int) ≤ a ∧ a < f.slots) = true := by simp; omega
      have QB := fun (W : World) => below_c a f.slots W
      rw [hbd] at QB
      have QK := fun (W : World) => kind_c true 14 W
      simp only [if_true, Bool.false_eq_true, if_false] at QK
      clear hbd
      go_enter Try.func27, Try.ntmps27
      go_wp2
      go_quiet (first
        | (go_at_call 26; exact Calls.quiet_of_same (QB _))
        | (go_at_call 34; exact Calls.quiet_of_same (QK _)))
      go_wp2
      exact opd_fin rfl rfl (by simp [Cd.opd]; omega) (below_drewN hbA.out)
    · have hbd : decide ((0 : Int) ≤ a ∧ a < f.slots) = false := by simp; omega
      have QB := fun (W : World) => below_c a f.slots W
      rw [hbd] at QB
      have QK := fun (W : World) => kind_c false 14 W
      simp only [if_true, Bool.false_eq_true, if_false] at QK
      clear hbd
      go_enter Try.func27, Try.ntmps27
      go_wp2
      go_quiet (first
        | (go_at_call 26; exact Calls.quiet_of_same (QB _))
        | (go_at_call 34; exact Calls.quiet_of_same (QK _)))
      go_wp2
      exact opd_fin rfl rfl (by simp [Cd.opd]; omega) (below_drewN hbA.out)
  · subst h
    by_cases hbel : a < f.slots
    · have hbd : decide ((0 : Int) ≤ a ∧ a < f.slots) = true := by simp; omega
      have QB := fun (W : World) => below_c a f.slots W
      rw [hbd] at QB
      have QK := fun (W : World) => kind_c true 14 W
      simp only [if_true, Bool.false_eq_true, if_false] at QK
      clear hbd
      go_enter Try.func27, Try.ntmps27
      go_wp2
      go_quiet (first
        | (go_at_call 26; exact Calls.quiet_of_same (QB _))
        | (go_at_call 34; exact Calls.quiet_of_same (QK _)))
      go_wp2
      exact opd_fin rfl rfl (by simp [Cd.opd]; omega) (below_drewN hbA.out)
    · have hbd : decide ((0 : Int) ≤ a ∧ a < f.slots) = false := by simp; omega
      have QB := fun (W : World) => below_c a f.slots W
      rw [hbd] at QB
      have QK := fun (W : World) => kind_c false 14 W
      simp only [if_true, Bool.false_eq_true, if_false] at QK
      clear hbd
      go_enter Try.func27, Try.ntmps27
      go_wp2
      go_quiet (first
        | (go_at_call 26; exact Calls.quiet_of_same (QB _))
        | (go_at_call 34; exact Calls.quiet_of_same (QK _)))
      go_wp2
      exact opd_fin rfl rfl (by simp [Cd.opd]; omega) (below_drewN hbA.out)
  · subst h
    by_cases hbel : a < 5
    · have hbd : decide ((0 : Int) ≤ a ∧ a < 5) = true := by simp; omega
      have QB := fun (W : World) => below_c a 5 W
      rw [hbd] at QB
      have QK := fun (W : World) => kind_c true 14 W
      simp only [if_true, Bool.false_eq_true, if_false] at QK
      clear hbd
      go_enter Try.func27, Try.ntmps27
      go_wp2_with (first
        | (go_at_call 26; refine (QB _).mono ?_; rintro en w9 ⟨rfl, hw9⟩; obtain rfl := hw9.symm)
        | (go_at_call 34; refine (QK _).mono ?_; rintro en w9 ⟨rfl, hw9⟩; obtain rfl := hw9.symm)
        | go_in)
      exact opd_fin rfl rfl (by simp [Cd.opd]; omega) hbA.out
    · have hbd : decide ((0 : Int) ≤ a ∧ a < 5) = false := by simp; omega
      have QB := fun (W : World) => below_c a 5 W
      rw [hbd] at QB
      have QK := fun (W : World) => kind_c false 14 W
      simp only [if_true, Bool.false_eq_true, if_false] at QK
      clear hbd
      go_enter Try.func27, Try.ntmps27
      go_wp2_with (first
        | (go_at_call 26; refine (QB _).mono ?_; rintro en w9 ⟨rfl, hw9⟩; obtain rfl := hw9.symm)
        | (go_at_call 34; refine (QK _).mono ?_; rintro en w9 ⟨rfl, hw9⟩; obtain rfl := hw9.symm)
        | go_in)
      exact opd_fin rfl rfl (by simp [Cd.opd]; omega) hbA.out
  · subst h
    by_cases ha0 : a = 0
    · subst ha0
      go_enter Try.func27, Try.ntmps27
      go_wp2
      go_quiet (first
        | (go_at_call 34; exact Calls.quiet_of_same (kind_c _ _ _)))
      go_wp2
      exact opd_fin rfl rfl (by simp [Cd.opd]) (below_drewN hbA.out)
    · have hz : (a != 0) = true := by simpa using ha0
      by_cases hbel : a < (C.funs.length : Int)
      · have hbd : decide ((0 : Int) ≤ a ∧ a < (C.funs.length : Int)) = true := by simp; omega
        have QB := fun (W : World) => below_c a (C.funs.length : Int) W
        rw [hbd] at QB
        have QK := fun (W : World) => kind_c true 14 W
        simp only [if_true, Bool.false_eq_true, if_false] at QK
        clear hbd
        go_enter Try.func27, Try.ntmps27
        go_wp2
        go_quiet (first
          | (go_at_call 26; exact Calls.quiet_of_same (QB _))
          | (go_at_call 34; exact Calls.quiet_of_same (QK _)))
        go_wp2
        exact opd_fin rfl rfl (by simp [Cd.opd, ha0]; omega) (below_drewN hbA.out)
      · have hbd : decide ((0 : Int) ≤ a ∧ a < (C.funs.length : Int)) = false := by simp; omega
        have QB := fun (W : World) => below_c a (C.funs.length : Int) W
        rw [hbd] at QB
        have QK := fun (W : World) => kind_c false 14 W
        simp only [if_true, Bool.false_eq_true, if_false] at QK
        clear hbd
        go_enter Try.func27, Try.ntmps27
        go_wp2
        go_quiet (first
          | (go_at_call 26; exact Calls.quiet_of_same (QB _))
          | (go_at_call 34; exact Calls.quiet_of_same (QK _)))
        go_wp2
        exact opd_fin rfl rfl (by simp [Cd.opd, ha0]; omega) (below_drewN hbA.out)
  · subst h
    by_cases hbel : a < (C.hans.length : Int)
    · have hbd : decide ((0 : Int) ≤ a ∧ a < (C.hans.length : Int)) = true := by simp; omega
      have QB := fun (W : World) => below_c a (C.hans.length : Int) W
      rw [hbd] at QB
      have QK := fun (W : World) => kind_c true 14 W
      simp only [if_true, Bool.false_eq_true, if_false] at QK
      clear hbd
      go_enter Try.func27, Try.ntmps27
      go_wp2
      go_quiet (first
        | (go_at_call 26; exact Calls.quiet_of_same (QB _))
        | (go_at_call 34; exact Calls.quiet_of_same (QK _)))
      go_wp2
      exact opd_fin rfl rfl (by simp [Cd.opd]; omega) (below_drewN hbA.out)
    · have hbd : decide ((0 : Int) ≤ a ∧ a < (C.hans.length : Int)) = false := by simp; omega
      have QB := fun (W : World) => below_c a (C.hans.length : Int) W
      rw [hbd] at QB
      have QK := fun (W : World) => kind_c false 14 W
      simp only [if_true, Bool.false_eq_true, if_false] at QK
      clear hbd
      go_enter Try.func27, Try.ntmps27
      go_wp2
      go_quiet (first
        | (go_at_call 26; exact Calls.quiet_of_same (QB _))
        | (go_at_call 34; exact Calls.quiet_of_same (QK _)))
      go_wp2
      exact opd_fin rfl rfl (by simp [Cd.opd]; omega) (below_drewN hbA.out)
  · subst h
    by_cases hbel : a < (C.ops.length : Int)
    · have hbd : decide ((0 : Int) ≤ a ∧ a < (C.ops.length : Int)) = true := by simp; omega
      have QB := fun (W : World) => below_c a (C.ops.length : Int) W
      rw [hbd] at QB
      have QK := fun (W : World) => kind_c true 14 W
      simp only [if_true, Bool.false_eq_true, if_false] at QK
      clear hbd
      go_enter Try.func27, Try.ntmps27
      go_wp2
      go_quiet (first
        | (go_at_call 26; exact Calls.quiet_of_same (QB _))
        | (go_at_call 34; exact Calls.quiet_of_same (QK _)))
      go_wp2
      exact opd_fin rfl rfl (by simp [Cd.opd]; omega) (below_drewN hbA.out)
    · have hbd : decide ((0 : Int) ≤ a ∧ a < (C.ops.length : Int)) = false := by simp; omega
      have QB := fun (W : World) => below_c a (C.ops.length : Int) W
      rw [hbd] at QB
      have QK := fun (W : World) => kind_c false 14 W
      simp only [if_true, Bool.false_eq_true, if_false] at QK
      clear hbd
      go_enter Try.func27, Try.ntmps27
      go_wp2
      go_quiet (first
        | (go_at_call 26; exact Calls.quiet_of_same (QB _))
        | (go_at_call 34; exact Calls.quiet_of_same (QK _)))
      go_wp2
      exact opd_fin rfl rfl (by simp [Cd.opd]; omega) (below_drewN hbA.out)
end Go.Proofs.Ytkfjjkpphpakbaa
