/-
  The program's checker in memory; operands, takes.
  The program's checker: takes, learn.
-/
import Derived.Test.YtpjbfdpblgjmfaaGreatDoorMK
set_option linter.unusedVariables false
set_option linter.unusedSimpArgs false
namespace Go.Proofs.YtpjbfdpblgjmfaaGreatDoor
open Go.RowKit Go.Maps

/-- A checker in the block kB. -/
structure Kk (C : Cd.Code) (f : Cd.Fun) (vb vc vd v : Value) (kB fn : Nat) (kn : Value) (w : World) : Prop where
  cm : CodeM w vb vc vd C
  im : InssM w v f.ins
  hk : w.heap[kB]? = some (.cells #[.string ⟨C.shape.toArray⟩, vb, vc, vd, .int .i64 fn, v, kn] 89 (0, 0))
  hf : C.funs[fn]? = some f
theorem Kk.keep {C : Cd.Code} {f : Cd.Fun} {vb vc vd v : Value} {kB fn : Nat} {kn : Value} {w w' : World} (h : Kk C f vb vc vd v kB fn kn w) (hb : Below w.heap.size w w') : Kk C f vb vc vd v kB fn kn w' :=
  ⟨h.cm.keep hb, h.im.keep hb, (hb.block kB (Array.getElem?_eq_some_iff.1 h.hk).1).trans h.hk, h.hf⟩
theorem Kk.cells {C : Cd.Code} {f : Cd.Fun} {vb vc vd v : Value} {kB fn : Nat} {kn : Value} {w : World} (h : Kk C f vb vc vd v kB fn kn w) : (w.cell? ⟨kB, 1, none⟩ = some vb ∧ w.cell? ⟨kB, 2, none⟩ = some vc ∧ w.cell? ⟨kB, 3, none⟩ = some vd) ∧ w.cell? ⟨kB, 4, none⟩ = some (.int .i64 fn) ∧ w.cell? ⟨kB, 5, none⟩ = some v ∧ w.cell? ⟨kB, 6, none⟩ = some kn ∧ ∀ i, w.frozen? ⟨kB, i, none⟩ = false := by
  have h1 := h.hk
  refine ⟨⟨?_, ?_, ?_⟩, ?_, ?_, ?_, fun i => ?_⟩ <;> simp [World.cell?, World.frozen?, h1]
theorem Kk.lt {C : Cd.Code} {f : Cd.Fun} {vb vc vd v : Value} {kB fn : Nat} {kn : Value} {w : World} (h : Kk C f vb vc vd v kB fn kn w) : kB < w.heap.size := (Array.getElem?_eq_some_iff.1 h.hk).1

def OpdPost (C : Cd.Code) (f : Cd.Fun) (fn : Nat) (x : Cd.Ins) (w : World) (e : Ending) (w' : World) : Prop := e = .returned (.int .i64 (Cd.opd C f (decide (fn = 0)) x)) ∧ Below w.heap.size w w'
theorem opd_fin {C : Cd.Code} {f : Cd.Fun} {fn : Nat} {x : Cd.Ins} {w w' : World} {a' : Act} {e : Int} (hd : a'.defers = []) (h4 : a'.tmps[4]? = some (.int .i64 e)) (hv : Cd.opd C f (decide (fn = 0)) x = e) (hb : Below w.heap.size w w') : bodyPost Tryz.prog Tryz.f62 (OpdPost C f fn x w) .ret a' w' := by
  refine bodyPost_ret (v := .int .i64 e) ?_ hd ⟨?_, hb⟩
  · simp [results, Tryz.results62, go_sem, h4]
  · rw [hv]
theorem below_drewN {w w' : World} {n B : Nat} (h : Below B w w') : Below B w (w'.drewN n) := ⟨h.os, h.tape, h.output, h.size, h.block⟩

set_option maxRecDepth 100000 in
set_option maxHeartbeats 8000000 in
theorem operands_c (C : Cd.Code) (f : Cd.Fun) (vb vc vd v : Value) (kB fn : Nat) (kn : Value) (x : Cd.Ins) (w : World) (hK : Kk C f vb vc vd v kB fn kn w) (hfl : fn < 65535) (hop : Cd.fits x.op 22 = true) (ha : 0 ≤ x.a ∧ x.a ≤ 65535) :
    Calls Tryz.prog 62 #[.pointer (some ⟨kB, 0, none⟩), insV2 x] w (OpdPost C f fn x w) := by
  obtain ⟨op, a, b, n⟩ := x
  dsimp only at hop ha
  unfold insV2
  dsimp only
  have hkB := hK.lt
  obtain ⟨⟨c1, c2, c3⟩, c4, c5, c6, _⟩ := hK.cells
  obtain ⟨⟨ao, co, rfl, hco, _⟩, ⟨ah, ch, rfl, hch, _⟩, ⟨af, cf, rfl, hcf, hx3⟩⟩ := hK.cm
  obtain ⟨ai, ci, rfl, hci, _⟩ := hK.im
  have hfm := hK.hf
  have hfn : fn < C.funs.length := (List.getElem?_eq_some_iff.1 hfm).1
  obtain ⟨g, k, rfl, hcell⟩ := hx3 (fun e => by rw [e] at hfn; simp at hfn)
  obtain ⟨q0, q1, _⟩ := hcell fn f hfm
  have hgl : g < w.heap.size := block_lt_of_cell q0
  have hfl2 : (fn : Int) < C.funs.length := by omega
  have hbA := hid ((Below.refl w.heap.size w).alloc (Nat.le_refl _) (.cells #[.int .i64 op, .int .i64 a, .int .i64 b, .int .i64 n] 123))
  clear hcell hx3 hK hfm
  have hop2 : 0 ≤ op ∧ op ≤ 22 := by unfold Cd.fits at hop; simpa using hop
  have hcs : op = 0 ∨ op = 5 ∨ op = 6 ∨ op = 7 ∨ op = 8 ∨ op = 9 ∨ op = 10 ∨ op = 11 ∨ op = 15 ∨ op = 16 ∨ op = 17 ∨ op = 20 ∨ op = 18 ∨ op = 19 ∨ op = 1 ∨ op = 2 ∨ op = 3 ∨ op = 4 ∨ op = 14 ∨ op = 12 ∨ op = 13 ∨ op = 21 ∨ op = 22 := by omega
  clear hop
  rcases hcs with h | h | h | h | h | h | h | h | h | h | h | h | h | h | h | h | h | h | h | h | h | h | h
  · subst h
    go_enter Tryz.func62, Tryz.ntmps62
    go_wp2_with (first
      | (go_at_call 95; refine (isOpc_any _ _).mono ?_; rintro en w9 ⟨rfl, hw9⟩; obtain rfl := hw9.symm; rw [show Cd.fits 0 22 = true by decide])
      | (go_at_call 94; refine (kind_c _ _ _).mono ?_; rintro en w9 ⟨rfl, hw9⟩; obtain rfl := hw9.symm)
      | go_in)
    exact opd_fin rfl rfl (by simp [Cd.opd]) hbA.out
  · subst h
    go_enter Tryz.func62, Tryz.ntmps62
    go_wp2_with (first
      | (go_at_call 95; refine (isOpc_any _ _).mono ?_; rintro en w9 ⟨rfl, hw9⟩; obtain rfl := hw9.symm; rw [show Cd.fits 5 22 = true by decide])
      | (go_at_call 94; refine (kind_c _ _ _).mono ?_; rintro en w9 ⟨rfl, hw9⟩; obtain rfl := hw9.symm)
      | go_in)
    exact opd_fin rfl rfl (by simp [Cd.opd]) hbA.out
  · subst h
    go_enter Tryz.func62, Tryz.ntmps62
    go_wp2_with (first
      | (go_at_call 95; refine (isOpc_any _ _).mono ?_; rintro en w9 ⟨rfl, hw9⟩; obtain rfl := hw9.symm; rw [show Cd.fits 6 22 = true by decide])
      | (go_at_call 94; refine (kind_c _ _ _).mono ?_; rintro en w9 ⟨rfl, hw9⟩; obtain rfl := hw9.symm)
      | go_in)
    exact opd_fin rfl rfl (by simp [Cd.opd]) hbA.out
  · subst h
    go_enter Tryz.func62, Tryz.ntmps62
    go_wp2_with (first
      | (go_at_call 95; refine (isOpc_any _ _).mono ?_; rintro en w9 ⟨rfl, hw9⟩; obtain rfl := hw9.symm; rw [show Cd.fits 7 22 = true by decide])
      | (go_at_call 94; refine (kind_c _ _ _).mono ?_; rintro en w9 ⟨rfl, hw9⟩; obtain rfl := hw9.symm)
      | go_in)
    exact opd_fin rfl rfl (by simp [Cd.opd]) hbA.out
  · subst h
    go_enter Tryz.func62, Tryz.ntmps62
    go_wp2_with (first
      | (go_at_call 95; refine (isOpc_any _ _).mono ?_; rintro en w9 ⟨rfl, hw9⟩; obtain rfl := hw9.symm; rw [show Cd.fits 8 22 = true by decide])
      | (go_at_call 94; refine (kind_c _ _ _).mono ?_; rintro en w9 ⟨rfl, hw9⟩; obtain rfl := hw9.symm)
      | go_in)
    exact opd_fin rfl rfl (by simp [Cd.opd]) hbA.out
  · subst h
    go_enter Tryz.func62, Tryz.ntmps62
    go_wp2_with (first
      | (go_at_call 95; refine (isOpc_any _ _).mono ?_; rintro en w9 ⟨rfl, hw9⟩; obtain rfl := hw9.symm; rw [show Cd.fits 9 22 = true by decide])
      | (go_at_call 94; refine (kind_c _ _ _).mono ?_; rintro en w9 ⟨rfl, hw9⟩; obtain rfl := hw9.symm)
      | go_in)
    exact opd_fin rfl rfl (by simp [Cd.opd]) hbA.out
  · subst h
    go_enter Tryz.func62, Tryz.ntmps62
    go_wp2_with (first
      | (go_at_call 95; refine (isOpc_any _ _).mono ?_; rintro en w9 ⟨rfl, hw9⟩; obtain rfl := hw9.symm; rw [show Cd.fits 10 22 = true by decide])
      | (go_at_call 94; refine (kind_c _ _ _).mono ?_; rintro en w9 ⟨rfl, hw9⟩; obtain rfl := hw9.symm)
      | go_in)
    exact opd_fin rfl rfl (by simp [Cd.opd]) hbA.out
  · subst h
    go_enter Tryz.func62, Tryz.ntmps62
    go_wp2_with (first
      | (go_at_call 95; refine (isOpc_any _ _).mono ?_; rintro en w9 ⟨rfl, hw9⟩; obtain rfl := hw9.symm; rw [show Cd.fits 11 22 = true by decide])
      | (go_at_call 94; refine (kind_c _ _ _).mono ?_; rintro en w9 ⟨rfl, hw9⟩; obtain rfl := hw9.symm)
      | go_in)
    exact opd_fin rfl rfl (by simp [Cd.opd]) hbA.out
  · subst h
    go_enter Tryz.func62, Tryz.ntmps62
    go_wp2_with (first
      | (go_at_call 95; refine (isOpc_any _ _).mono ?_; rintro en w9 ⟨rfl, hw9⟩; obtain rfl := hw9.symm; rw [show Cd.fits 15 22 = true by decide])
      | (go_at_call 94; refine (kind_c _ _ _).mono ?_; rintro en w9 ⟨rfl, hw9⟩; obtain rfl := hw9.symm)
      | go_in)
    exact opd_fin rfl rfl (by simp [Cd.opd]) hbA.out
  · subst h
    go_enter Tryz.func62, Tryz.ntmps62
    go_wp2_with (first
      | (go_at_call 95; refine (isOpc_any _ _).mono ?_; rintro en w9 ⟨rfl, hw9⟩; obtain rfl := hw9.symm; rw [show Cd.fits 16 22 = true by decide])
      | (go_at_call 94; refine (kind_c _ _ _).mono ?_; rintro en w9 ⟨rfl, hw9⟩; obtain rfl := hw9.symm)
      | go_in)
    exact opd_fin rfl rfl (by simp [Cd.opd]) hbA.out
  · subst h
    go_enter Tryz.func62, Tryz.ntmps62
    go_wp2_with (first
      | (go_at_call 95; refine (isOpc_any _ _).mono ?_; rintro en w9 ⟨rfl, hw9⟩; obtain rfl := hw9.symm; rw [show Cd.fits 17 22 = true by decide])
      | (go_at_call 94; refine (kind_c _ _ _).mono ?_; rintro en w9 ⟨rfl, hw9⟩; obtain rfl := hw9.symm)
      | go_in)
    exact opd_fin rfl rfl (by simp [Cd.opd]) hbA.out
  · subst h
    go_enter Tryz.func62, Tryz.ntmps62
    go_wp2_with (first
      | (go_at_call 95; refine (isOpc_any _ _).mono ?_; rintro en w9 ⟨rfl, hw9⟩; obtain rfl := hw9.symm; rw [show Cd.fits 20 22 = true by decide])
      | (go_at_call 94; refine (kind_c _ _ _).mono ?_; rintro en w9 ⟨rfl, hw9⟩; obtain rfl := hw9.symm)
      | go_in)
    exact opd_fin rfl rfl (by simp [Cd.opd]) hbA.out
  · subst h
    by_cases hbel : a < (f.ins.length : Int)
    · have hbd : decide ((0 : Int) ≤ a ∧ a < (f.ins.length : Int)) = true := by simp; omega
      have QB := fun (W : World) => below_c a (f.ins.length : Int) W
      rw [hbd] at QB
      have QK := fun (W : World) => kind_c true 16 W
      simp only [if_true, Bool.false_eq_true, if_false] at QK
      clear hbd
      go_enter Tryz.func62, Tryz.ntmps62
      go_wp2
      go_quiet (first
        | (go_at_call 61; exact Calls.quiet_of_same (QB _))
        | (go_at_call 94; exact Calls.quiet_of_same (QK _)))
      go_wp2
      exact opd_fin rfl rfl (by simp [Cd.opd]; omega) (below_drewN hbA.out)
    · have hbd : decide ((0 : Int) ≤ a ∧ a < (f.ins.length : Int)) = false := by simp; omega
      have QB := fun (W : World) => below_c a (f.ins.length : Int) W
      rw [hbd] at QB
      have QK := fun (W : World) => kind_c false 16 W
      simp only [if_true, Bool.false_eq_true, if_false] at QK
      clear hbd
      go_enter Tryz.func62, Tryz.ntmps62
      go_wp2
      go_quiet (first
        | (go_at_call 61; exact Calls.quiet_of_same (QB _))
        | (go_at_call 94; exact Calls.quiet_of_same (QK _)))
      go_wp2
      exact opd_fin rfl rfl (by simp [Cd.opd]; omega) (below_drewN hbA.out)
  · subst h
    by_cases hbel : a < (f.ins.length : Int)
    · have hbd : decide ((0 : Int) ≤ a ∧ a < (f.ins.length : Int)) = true := by simp; omega
      have QB := fun (W : World) => below_c a (f.ins.length : Int) W
      rw [hbd] at QB
      have QK := fun (W : World) => kind_c true 16 W
      simp only [if_true, Bool.false_eq_true, if_false] at QK
      clear hbd
      go_enter Tryz.func62, Tryz.ntmps62
      go_wp2
      go_quiet (first
        | (go_at_call 61; exact Calls.quiet_of_same (QB _))
        | (go_at_call 94; exact Calls.quiet_of_same (QK _)))
      go_wp2
      exact opd_fin rfl rfl (by simp [Cd.opd]; omega) (below_drewN hbA.out)
    · have hbd : decide ((0 : Int) ≤ a ∧ a < (f.ins.length : Int)) = false := by simp; omega
      have QB := fun (W : World) => below_c a (f.ins.length : Int) W
      rw [hbd] at QB
      have QK := fun (W : World) => kind_c false 16 W
      simp only [if_true, Bool.false_eq_true, if_false] at QK
      clear hbd
      go_enter Tryz.func62, Tryz.ntmps62
      go_wp2
      go_quiet (first
        | (go_at_call 61; exact Calls.quiet_of_same (QB _))
        | (go_at_call 94; exact Calls.quiet_of_same (QK _)))
      go_wp2
      exact opd_fin rfl rfl (by simp [Cd.opd]; omega) (below_drewN hbA.out)
  · subst h
    by_cases hz : fn = 0
    · subst hz
      go_enter Tryz.func62, Tryz.ntmps62
      go_wp2_with (first
        | (go_at_call 94; refine (kind_c _ _ _).mono ?_; rintro en w9 ⟨rfl, hw9⟩; obtain rfl := hw9.symm)
        | go_in)
      exact opd_fin rfl rfl (by simp [Cd.opd]) hbA.out
    · have hz2 : ((fn : Int) != 0) = true := by simp; omega
      have HZ := hid hz
      clear hz
      go_enter Tryz.func62, Tryz.ntmps62
      go_wp2_with (first
        | (go_at_call 94; refine (kind_c _ _ _).mono ?_; rintro en w9 ⟨rfl, hw9⟩; obtain rfl := hw9.symm)
        | go_in)
      exact opd_fin rfl rfl (by simp [Cd.opd, HZ.out]) hbA.out
  · subst h
    by_cases hbel : a < f.free
    · have hbd : decide ((0 : Int) ≤ a ∧ a < f.free) = true := by simp; omega
      have QB := fun (W : World) => below_c a f.free W
      rw [hbd] at QB
      have QK := fun (W : World) => kind_c true 14 W
      simp only [if_true, Bool.false_eq_true, if_false] at QK
      clear hbd
      go_enter Tryz.func62, Tryz.ntmps62
      go_wp2
      go_quiet (first
        | (go_at_call 61; exact Calls.quiet_of_same (QB _))
        | (go_at_call 94; exact Calls.quiet_of_same (QK _)))
      go_wp2
      exact opd_fin rfl rfl (by simp [Cd.opd]; omega) (below_drewN hbA.out)
    · have hbd : decide ((0 : Int) ≤ a ∧ a < f.free) = false := by simp; omega
      have QB := fun (W : World) => below_c a f.free W
      rw [hbd] at QB
      have QK := fun (W : World) => kind_c false 14 W
      simp only [if_true, Bool.false_eq_true, if_false] at QK
      clear hbd
      go_enter Tryz.func62, Tryz.ntmps62
      go_wp2
      go_quiet (first
        | (go_at_call 61; exact Calls.quiet_of_same (QB _))
        | (go_at_call 94; exact Calls.quiet_of_same (QK _)))
      go_wp2
      exact opd_fin rfl rfl (by simp [Cd.opd]; omega) (below_drewN hbA.out)
  · subst h
    by_cases hbel : a < f.slots
    · have hbd : decide ((0 : Int) ≤ a ∧ a < f.slots) = true := by simp; omega
      have QB := fun (W : World) => below_c a f.slots W
      rw [hbd] at QB
      have QK := fun (W : World) => kind_c true 14 W
      simp only [if_true, Bool.false_eq_true, if_false] at QK
      clear hbd
      go_enter Tryz.func62, Tryz.ntmps62
      go_wp2
      go_quiet (first
        | (go_at_call 61; exact Calls.quiet_of_same (QB _))
        | (go_at_call 94; exact Calls.quiet_of_same (QK _)))
      go_wp2
      exact opd_fin rfl rfl (by simp [Cd.opd]; omega) (below_drewN hbA.out)
    · have hbd : decide ((0 : Int) ≤ a ∧ a < f.slots) = false := by simp; omega
      have QB := fun (W : World) => below_c a f.slots W
      rw [hbd] at QB
      have QK := fun (W : World) => kind_c false 14 W
      simp only [if_true, Bool.false_eq_true, if_false] at QK
      clear hbd
      go_enter Tryz.func62, Tryz.ntmps62
      go_wp2
      go_quiet (first
        | (go_at_call 61; exact Calls.quiet_of_same (QB _))
        | (go_at_call 94; exact Calls.quiet_of_same (QK _)))
      go_wp2
      exact opd_fin rfl rfl (by simp [Cd.opd]; omega) (below_drewN hbA.out)
  · subst h
    by_cases hbel : a < f.slots
    · have hbd : decide ((0 : Int) ≤ a ∧ a < f.slots) = true := by simp; omega
      have QB := fun (W : World) => below_c a f.slots W
      rw [hbd] at QB
      have QK := fun (W : World) => kind_c true 14 W
      simp only [if_true, Bool.false_eq_true, if_false] at QK
      clear hbd
      go_enter Tryz.func62, Tryz.ntmps62
      go_wp2
      go_quiet (first
        | (go_at_call 61; exact Calls.quiet_of_same (QB _))
        | (go_at_call 94; exact Calls.quiet_of_same (QK _)))
      go_wp2
      exact opd_fin rfl rfl (by simp [Cd.opd]; omega) (below_drewN hbA.out)
    · have hbd : decide ((0 : Int) ≤ a ∧ a < f.slots) = false := by simp; omega
      have QB := fun (W : World) => below_c a f.slots W
      rw [hbd] at QB
      have QK := fun (W : World) => kind_c false 14 W
      simp only [if_true, Bool.false_eq_true, if_false] at QK
      clear hbd
      go_enter Tryz.func62, Tryz.ntmps62
      go_wp2
      go_quiet (first
        | (go_at_call 61; exact Calls.quiet_of_same (QB _))
        | (go_at_call 94; exact Calls.quiet_of_same (QK _)))
      go_wp2
      exact opd_fin rfl rfl (by simp [Cd.opd]; omega) (below_drewN hbA.out)
  · subst h
    by_cases hbel : a < f.slots
    · have hbd : decide ((0 : Int) ≤ a ∧ a < f.slots) = true := by simp; omega
      have QB := fun (W : World) => below_c a f.slots W
      rw [hbd] at QB
      have QK := fun (W : World) => kind_c true 14 W
      simp only [if_true, Bool.false_eq_true, if_false] at QK
      clear hbd
      go_enter Tryz.func62, Tryz.ntmps62
      go_wp2
      go_quiet (first
        | (go_at_call 61; exact Calls.quiet_of_same (QB _))
        | (go_at_call 94; exact Calls.quiet_of_same (QK _)))
      go_wp2
      exact opd_fin rfl rfl (by simp [Cd.opd]; omega) (below_drewN hbA.out)
    · have hbd : decide ((0 : Int) ≤ a ∧ a < f.slots) = false := by simp; omega
      have QB := fun (W : World) => below_c a f.slots W
      rw [hbd] at QB
      have QK := fun (W : World) => kind_c false 14 W
      simp only [if_true, Bool.false_eq_true, if_false] at QK
      clear hbd
      go_enter Tryz.func62, Tryz.ntmps62
      go_wp2
      go_quiet (first
        | (go_at_call 61; exact Calls.quiet_of_same (QB _))
        | (go_at_call 94; exact Calls.quiet_of_same (QK _)))
      go_wp2
      exact opd_fin rfl rfl (by simp [Cd.opd]; omega) (below_drewN hbA.out)
  · subst h
    by_cases hbel : a < 5
    · have hbd : decide ((0 : Int) ≤ a ∧ a < 5) = true := by simp; omega
      have QB := fun (W : World) => below_c a 5 W
      rw [hbd] at QB
      have QK := fun (W : World) => kind_c true 14 W
      simp only [if_true, Bool.false_eq_true, if_false] at QK
      clear hbd
      go_enter Tryz.func62, Tryz.ntmps62
      go_wp2_with (first
        | (go_at_call 61; refine (QB _).mono ?_; rintro en w9 ⟨rfl, hw9⟩; obtain rfl := hw9.symm)
        | (go_at_call 94; refine (QK _).mono ?_; rintro en w9 ⟨rfl, hw9⟩; obtain rfl := hw9.symm)
        | go_in)
      exact opd_fin rfl rfl (by simp [Cd.opd]; omega) hbA.out
    · have hbd : decide ((0 : Int) ≤ a ∧ a < 5) = false := by simp; omega
      have QB := fun (W : World) => below_c a 5 W
      rw [hbd] at QB
      have QK := fun (W : World) => kind_c false 14 W
      simp only [if_true, Bool.false_eq_true, if_false] at QK
      clear hbd
      go_enter Tryz.func62, Tryz.ntmps62
      go_wp2_with (first
        | (go_at_call 61; refine (QB _).mono ?_; rintro en w9 ⟨rfl, hw9⟩; obtain rfl := hw9.symm)
        | (go_at_call 94; refine (QK _).mono ?_; rintro en w9 ⟨rfl, hw9⟩; obtain rfl := hw9.symm)
        | go_in)
      exact opd_fin rfl rfl (by simp [Cd.opd]; omega) hbA.out
  · subst h
    by_cases ha0 : a = 0
    · subst ha0
      go_enter Tryz.func62, Tryz.ntmps62
      go_wp2
      go_quiet (first
        | (go_at_call 94; exact Calls.quiet_of_same (kind_c _ _ _)))
      go_wp2
      exact opd_fin rfl rfl (by simp [Cd.opd]) (below_drewN hbA.out)
    · have hz : (a != 0) = true := by simpa using ha0
      by_cases hbel : a < (C.funs.length : Int)
      · have hbd : decide ((0 : Int) ≤ a ∧ a < (C.funs.length : Int)) = true := by simp; omega
        have QB := fun (W : World) => below_c a (C.funs.length : Int) W
        rw [hbd] at QB
        have QK := fun (W : World) => kind_c true 14 W
        simp only [if_true, Bool.false_eq_true, if_false] at QK
        clear hbd
        go_enter Tryz.func62, Tryz.ntmps62
        go_wp2
        go_quiet (first
          | (go_at_call 61; exact Calls.quiet_of_same (QB _))
          | (go_at_call 94; exact Calls.quiet_of_same (QK _)))
        go_wp2
        exact opd_fin rfl rfl (by simp [Cd.opd, ha0]; omega) (below_drewN hbA.out)
      · have hbd : decide ((0 : Int) ≤ a ∧ a < (C.funs.length : Int)) = false := by simp; omega
        have QB := fun (W : World) => below_c a (C.funs.length : Int) W
        rw [hbd] at QB
        have QK := fun (W : World) => kind_c false 14 W
        simp only [if_true, Bool.false_eq_true, if_false] at QK
        clear hbd
        go_enter Tryz.func62, Tryz.ntmps62
        go_wp2
        go_quiet (first
          | (go_at_call 61; exact Calls.quiet_of_same (QB _))
          | (go_at_call 94; exact Calls.quiet_of_same (QK _)))
        go_wp2
        exact opd_fin rfl rfl (by simp [Cd.opd, ha0]; omega) (below_drewN hbA.out)
  · subst h
    by_cases hbel : a < (C.hans.length : Int)
    · have hbd : decide ((0 : Int) ≤ a ∧ a < (C.hans.length : Int)) = true := by simp; omega
      have QB := fun (W : World) => below_c a (C.hans.length : Int) W
      rw [hbd] at QB
      have QK := fun (W : World) => kind_c true 14 W
      simp only [if_true, Bool.false_eq_true, if_false] at QK
      clear hbd
      go_enter Tryz.func62, Tryz.ntmps62
      go_wp2
      go_quiet (first
        | (go_at_call 61; exact Calls.quiet_of_same (QB _))
        | (go_at_call 94; exact Calls.quiet_of_same (QK _)))
      go_wp2
      exact opd_fin rfl rfl (by simp [Cd.opd]; omega) (below_drewN hbA.out)
    · have hbd : decide ((0 : Int) ≤ a ∧ a < (C.hans.length : Int)) = false := by simp; omega
      have QB := fun (W : World) => below_c a (C.hans.length : Int) W
      rw [hbd] at QB
      have QK := fun (W : World) => kind_c false 14 W
      simp only [if_true, Bool.false_eq_true, if_false] at QK
      clear hbd
      go_enter Tryz.func62, Tryz.ntmps62
      go_wp2
      go_quiet (first
        | (go_at_call 61; exact Calls.quiet_of_same (QB _))
        | (go_at_call 94; exact Calls.quiet_of_same (QK _)))
      go_wp2
      exact opd_fin rfl rfl (by simp [Cd.opd]; omega) (below_drewN hbA.out)
  · subst h
    by_cases hbel : a < (C.ops.length : Int)
    · have hbd : decide ((0 : Int) ≤ a ∧ a < (C.ops.length : Int)) = true := by simp; omega
      have QB := fun (W : World) => below_c a (C.ops.length : Int) W
      rw [hbd] at QB
      have QK := fun (W : World) => kind_c true 14 W
      simp only [if_true, Bool.false_eq_true, if_false] at QK
      clear hbd
      go_enter Tryz.func62, Tryz.ntmps62
      go_wp2
      go_quiet (first
        | (go_at_call 61; exact Calls.quiet_of_same (QB _))
        | (go_at_call 94; exact Calls.quiet_of_same (QK _)))
      go_wp2
      exact opd_fin rfl rfl (by simp [Cd.opd]; omega) (below_drewN hbA.out)
    · have hbd : decide ((0 : Int) ≤ a ∧ a < (C.ops.length : Int)) = false := by simp; omega
      have QB := fun (W : World) => below_c a (C.ops.length : Int) W
      rw [hbd] at QB
      have QK := fun (W : World) => kind_c false 14 W
      simp only [if_true, Bool.false_eq_true, if_false] at QK
      clear hbd
      go_enter Tryz.func62, Tryz.ntmps62
      go_wp2
      go_quiet (first
        | (go_at_call 61; exact Calls.quiet_of_same (QB _))
        | (go_at_call 94; exact Calls.quiet_of_same (QK _)))
      go_wp2
      exact opd_fin rfl rfl (by simp [Cd.opd]; omega) (below_drewN hbA.out)
end Go.Proofs.YtpjbfdpblgjmfaaGreatDoor

namespace Go.Proofs.YtpjbfdpblgjmfaaGreatDoor
open Go.RowKit Go.Maps

def TakPost (C : Cd.Code) (x : Cd.Ins) (w : World) (e : Ending) (w' : World) : Prop := e = .returned (.int .i64 (Cd.takes C x).1) ∧ Below w.heap.size w w'
theorem tak_fin {C : Cd.Code} {x : Cd.Ins} {w w' : World} {a' : Act} {e : Int} (hd : a'.defers = []) (h4 : a'.tmps[4]? = some (.int .i64 e)) (hv : (Cd.takes C x).1 = e) (hb : Below w.heap.size w w') : bodyPost Tryz.prog Tryz.f105 (TakPost C x w) .ret a' w' := by
  refine bodyPost_ret (v := .int .i64 e) ?_ hd ⟨?_, hb⟩
  · simp [results, Tryz.results105, go_sem, h4]
  · rw [hv]
set_option maxRecDepth 100000 in
set_option maxHeartbeats 8000000 in
theorem takes_c (C : Cd.Code) (f : Cd.Fun) (vb vc vd v : Value) (kB fn : Nat) (kn : Value) (x : Cd.Ins) (w : World) (hK : Kk C f vb vc vd v kB fn kn w) (hop : Cd.fits x.op 22 = true) (h13 : x.op = 13 → 0 ≤ x.a ∧ x.a < C.funs.length) (h21 : x.op = 21 → 0 ≤ x.a ∧ x.a < C.hans.length) (hho : ∀ h ∈ C.hans, h.ops.length ≤ 255) :
    Calls Tryz.prog 105 #[.pointer (some ⟨kB, 0, none⟩), insV2 x] w (TakPost C x w) := by
  obtain ⟨op, a, b, n⟩ := x
  dsimp only at hop h13 h21
  unfold insV2
  dsimp only
  have hkB := hK.lt
  obtain ⟨⟨c1, c2, c3⟩, c4, c5, c6, _⟩ := hK.cells
  obtain ⟨⟨ao, co, rfl, hco, _⟩, ⟨ah, ch, rfl, hch, hx2⟩, ⟨af, cf, rfl, hcf, hx3⟩⟩ := hK.cm
  have HX2 := hid hx2
  have HX3 := hid hx3
  have HHo := hid hho
  have H13 := hid h13
  have H21 := hid h21
  have hbA := hid ((Below.refl w.heap.size w).alloc (Nat.le_refl _) (.cells #[.int .i64 op, .int .i64 a, .int .i64 b, .int .i64 n] 123))
  clear hx2 hx3 hK hho h13 h21 c5 c6 c4
  have hop2 : 0 ≤ op ∧ op ≤ 22 := by unfold Cd.fits at hop; simpa using hop
  have hcs : op = 0 ∨ op = 1 ∨ op = 2 ∨ op = 3 ∨ op = 4 ∨ op = 5 ∨ op = 6 ∨ op = 7 ∨ op = 8 ∨ op = 9 ∨ op = 10 ∨ op = 11 ∨ op = 12 ∨ op = 14 ∨ op = 15 ∨ op = 16 ∨ op = 17 ∨ op = 18 ∨ op = 19 ∨ op = 20 ∨ op = 22 ∨ op = 13 ∨ op = 21 := by omega
  clear hop hop2
  rcases hcs with h | h | h | h | h | h | h | h | h | h | h | h | h | h | h | h | h | h | h | h | h | h | h
  · subst h
    go_enter Tryz.func105, Tryz.ntmps105
    go_wp2
    exact tak_fin rfl rfl (by simp [Cd.takes]) hbA.out
  · subst h
    go_enter Tryz.func105, Tryz.ntmps105
    go_wp2
    exact tak_fin rfl rfl (by simp [Cd.takes]) hbA.out
  · subst h
    go_enter Tryz.func105, Tryz.ntmps105
    go_wp2
    exact tak_fin rfl rfl (by simp [Cd.takes]) hbA.out
  · subst h
    go_enter Tryz.func105, Tryz.ntmps105
    go_wp2
    exact tak_fin rfl rfl (by simp [Cd.takes]) hbA.out
  · subst h
    go_enter Tryz.func105, Tryz.ntmps105
    go_wp2
    exact tak_fin rfl rfl (by simp [Cd.takes]) hbA.out
  · subst h
    go_enter Tryz.func105, Tryz.ntmps105
    go_wp2
    exact tak_fin rfl rfl (by simp [Cd.takes]) hbA.out
  · subst h
    go_enter Tryz.func105, Tryz.ntmps105
    go_wp2
    exact tak_fin rfl rfl (by simp [Cd.takes]) hbA.out
  · subst h
    go_enter Tryz.func105, Tryz.ntmps105
    go_wp2
    exact tak_fin rfl rfl (by simp [Cd.takes]) hbA.out
  · subst h
    go_enter Tryz.func105, Tryz.ntmps105
    go_wp2
    exact tak_fin rfl rfl (by simp [Cd.takes]) hbA.out
  · subst h
    go_enter Tryz.func105, Tryz.ntmps105
    go_wp2
    exact tak_fin rfl rfl (by simp [Cd.takes]) hbA.out
  · subst h
    go_enter Tryz.func105, Tryz.ntmps105
    go_wp2
    exact tak_fin rfl rfl (by simp [Cd.takes]) hbA.out
  · subst h
    go_enter Tryz.func105, Tryz.ntmps105
    go_wp2
    exact tak_fin rfl rfl (by simp [Cd.takes]) hbA.out
  · subst h
    go_enter Tryz.func105, Tryz.ntmps105
    go_wp2
    exact tak_fin rfl rfl (by simp [Cd.takes]) hbA.out
  · subst h
    go_enter Tryz.func105, Tryz.ntmps105
    go_wp2
    exact tak_fin rfl rfl (by simp [Cd.takes]) hbA.out
  · subst h
    go_enter Tryz.func105, Tryz.ntmps105
    go_wp2
    exact tak_fin rfl rfl (by simp [Cd.takes]) hbA.out
  · subst h
    go_enter Tryz.func105, Tryz.ntmps105
    go_wp2
    exact tak_fin rfl rfl (by simp [Cd.takes]) hbA.out
  · subst h
    go_enter Tryz.func105, Tryz.ntmps105
    go_wp2
    exact tak_fin rfl rfl (by simp [Cd.takes]) hbA.out
  · subst h
    go_enter Tryz.func105, Tryz.ntmps105
    go_wp2
    exact tak_fin rfl rfl (by simp [Cd.takes]) hbA.out
  · subst h
    go_enter Tryz.func105, Tryz.ntmps105
    go_wp2
    exact tak_fin rfl rfl (by simp [Cd.takes]) hbA.out
  · subst h
    go_enter Tryz.func105, Tryz.ntmps105
    go_wp2
    exact tak_fin rfl rfl (by simp [Cd.takes]) hbA.out
  · subst h
    go_enter Tryz.func105, Tryz.ntmps105
    go_wp2
    exact tak_fin rfl rfl (by simp [Cd.takes]) hbA.out
  · subst h
    obtain ⟨h0, h1⟩ := H13.out rfl
    obtain ⟨m, rfl⟩ := Int.eq_ofNat_of_zero_le h0
    have hm : m < C.funs.length := by omega
    obtain ⟨f2, hf2, _, _, hne⟩ := at_some hm
    obtain ⟨g, k, rfl, hcell⟩ := HX3.out hne
    have e0 := (hcell m f2 hf2).1
    have hgl : g < w.heap.size := block_lt_of_cell e0
    have HT : Hid ((Cd.takes C ⟨13, (m : Int), b, n⟩).1 = f2.free) := by simp [Hid, Cd.takes, hf2]
    clear hcell hne
    go_enter Tryz.func105, Tryz.ntmps105
    go_wp2
    go_quiet (fail)
    go_wp2
    exact tak_fin rfl rfl HT.out (below_drewN hbA.out)
  · subst h
    obtain ⟨h0, h1⟩ := H21.out rfl
    obtain ⟨m, rfl⟩ := Int.eq_ofNat_of_zero_le h0
    have hm : m < C.hans.length := by omega
    obtain ⟨f2, hf2, _, hmem, hne⟩ := at_some hm
    obtain ⟨g, k, rfl, hcell⟩ := HX2.out hne
    obtain ⟨q0, u, e0, ai, ci, rfl, _, _⟩ := hcell m f2 hf2
    have hgl : g < w.heap.size := block_lt_of_cell e0
    have hol := HHo.out f2 hmem
    have HT : Hid ((Cd.takes C ⟨21, (m : Int), b, n⟩).1 = 2 + f2.ops.length) := by simp [Hid, Cd.takes, hf2]
    have hw : IntKind.i64.wrap (2 + (f2.ops.length : Int)) = 2 + f2.ops.length := by rw [IntKind.wrap_i64]; omega
    clear hcell hne
    go_enter Tryz.func105, Tryz.ntmps105
    go_wp2
    go_quiet (fail)
    go_wp2
    exact tak_fin rfl rfl HT.out (below_drewN hbA.out)

/-- What is known stands in a row. -/
def encK (o : Option Int) : Int := o.getD (-1)
def KR (w : World) (g n : Nat) (K : Cd.Kn) : Prop := w.rowIs g 3 (n + 1) (fun j => .int .i64 (encK (K j)))
def knV (g n : Nat) : Value := .slice (some ⟨g, 0, none⟩) (n + 1) (n + 1)
theorem KR.keep {w w' : World} {g n : Nat} {K : Cd.Kn} (h : KR w g n K) (hb : w'.heap[g]? = w.heap[g]?) : KR w' g n K := by
  obtain ⟨c, h1, h2⟩ := h
  exact ⟨c, hb.trans h1, h2⟩
theorem KR.lt {w : World} {g n : Nat} {K : Cd.Kn} (h : KR w g n K) : g < w.heap.size := by
  obtain ⟨c, h1, h2⟩ := h
  exact (Array.getElem?_eq_some_iff.1 h1).1
theorem KR.put {w : World} {g n : Nat} {K : Cd.Kn} (h : KR w g n K) (a : Nat) (v : Int) : KR (w.setCell ⟨g, a, none⟩ (.int .i64 v)) g n (K.put a v) := by
  refine (World.rowIs.set h a _).congr ?_
  intro j hj
  unfold Cd.Kn.put
  by_cases e : j = a
  · rw [if_pos e, if_pos (by omega)]; rfl
  · rw [if_neg e, if_neg (by omega)]
/-- What learning one place leaves. -/
def LnPost (w : World) (g n : Nat) (R : Option Cd.Kn) (e : Ending) (w' : World) : Prop := w.grownBy w' (some g) ∧ match R with
  | none => e = .returned (.bool false)
  | some K' => e = .returned (.bool true) ∧ KR w' g n K'
set_option maxHeartbeats 4000000 in
theorem learn_c (C : Cd.Code) (f : Cd.Fun) (vb vc vd v : Value) (kB fn g n : Nat) (K : Cd.Kn) (a : Nat) (q : Int) (w : World) (hK : Kk C f vb vc vd v kB fn (knV g n) w) (hR : KR w g n K) (ha : a ≤ n) (hn : n ≤ 65535) (hq : 0 ≤ q) (hv : ∀ b m, K b = some m → 0 ≤ m) :
    Calls Tryz.prog 109 #[.pointer (some ⟨kB, 0, none⟩), .int .i64 a, .int .i64 q] w (LnPost w g n (Cd.flowP q [(a : Int)] K)) := by
  obtain ⟨_, c4, c5, c6, _⟩ := hK.cells
  have hkB := hK.lt
  unfold knV at c6
  have r0 : w.cell? ⟨g, a, none⟩ = _ := World.rowIs.cell hR (by omega : a < n + 1)
  have rf := World.rowIs.frozen hR a
  have hal : (a : Int) < (n : Int) + 1 := by omega
  have hal2 : a < n + 1 := by omega
  have HR := hid hR
  have HV := hid hv
  have hgk : g ≠ kB := by
    intro e
    obtain ⟨c, h1, h2, _⟩ := hR
    have h3 := hK.hk
    rw [← e, h1] at h3
    simp at h3
  clear hK hR hv c4 c5
  cases hKa : K a with
  | none =>
    have HP : Hid (Cd.flowP q [(a : Int)] K = some (K.put a q)) := by simp [Hid, Cd.flowP, hKa]
    rw [hKa] at r0
    unfold encK at r0
    dsimp only [Option.getD_none] at r0
    have hqq : (q == q) = true := by simp
    go_enter Tryz.func109, Tryz.ntmps109
    go_wp2
    go_ret
    rw [HP.out]
    exact ⟨grown_set (grown_refl _ _) _, rfl, HR.out.put a q⟩
  | some m =>
    have hm0 := HV.out _ _ hKa
    rw [hKa] at r0
    unfold encK at r0
    dsimp only [Option.getD_some] at r0
    have hm1 : (m == -1) = false := by simp; omega
    by_cases e : m = q
    · have HP : Hid (Cd.flowP q [(a : Int)] K = some (K.put a q)) := by simp [Hid, Cd.flowP, hKa, e]
      have hKe : K.put a q = K := by
        funext b
        unfold Cd.Kn.put
        split
        · rename_i eb; rw [eb, hKa, e]
        · rfl
      subst e
      go_enter Tryz.func109, Tryz.ntmps109
      go_wp2
      go_ret
      rw [HP.out]
      exact ⟨grown_refl _ _, rfl, by rw [hKe]; exact HR.out⟩
    · have HP : Hid (Cd.flowP q [(a : Int)] K = none) := by simp [Hid, Cd.flowP, hKa, e]
      have he : (m == q) = false := by simpa using e
      go_enter Tryz.func109, Tryz.ntmps109
      go_wp2
      go_ret
      rw [HP.out]
      exact ⟨grown_refl _ _, rfl⟩
end Go.Proofs.YtpjbfdpblgjmfaaGreatDoor
