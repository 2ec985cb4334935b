/-
  The program's checker: takes, learn.
-/
import Derived.Test.YtkfjjkpphpakbaaKd
set_option linter.unusedVariables false
set_option linter.unusedSimpArgs false
namespace Go.Proofs.Ytkfjjkpphpakbaa
open Go.RowKit Go.Maps

def TakPost (C : Cd.Code) (x : Cd.Ins) (w : World) (e : Ending) (w' : World) : Prop := e = .returned (.int .i64 (Cd.takes C x).1) ∧ Below w.heap.size w w'
theorem tak_fin {C : Cd.Code} {x : Cd.Ins} {w w' : World} {a' : Act} {e : Int} (hd : a'.defers = []) (h4 : a'.tmps[4]? = some (.int .i64 e)) (hv : (Cd.takes C x).1 = e) (hb : Below w.heap.size w w') : bodyPost Try.prog Try.f38 (TakPost C x w) .ret a' w' := by
  refine bodyPost_ret (v := .int .i64 e) ?_ hd ⟨?_, hb⟩
  · simp [results, Try.results38, go_sem, h4]
  · rw [hv]
set_option maxRecDepth 100000 in
set_option maxHeartbeats 8000000 in
theorem takes_c (C : Cd.Code) (f : Cd.Fun) (vb vc vd v : Value) (kB fn : Nat) (kn : Value) (x : Cd.Ins) (w : World) (hK : Kk C f vb vc vd v kB fn kn w) (hop : Cd.fits x.op 22 = true) (h13 : x.op = 13 → 0 ≤ x.a ∧ x.a < C.funs.length) (h21 : x.op = 21 → 0 ≤ x.a ∧ x.a < C.hans.length) (hho : ∀ h ∈ C.hans, h.ops.length ≤ 255) :
    Calls Try.prog 38 #[.pointer (some ⟨kB, 0, none⟩), insV2 x] w (TakPost C x w) := by
  obtain ⟨op, a, b, n⟩ := x
  dsimp only at hop h13 h21
  unfold insV2
  dsimp only
  have hkB := hK.lt
  obtain ⟨⟨c1, c2, c3⟩, c4, c5, c6, _⟩ := hK.cells
  obtain ⟨⟨ao, co, rfl, hco, _⟩, ⟨ah, ch, rfl, hch, hx2⟩, ⟨af, cf, rfl, hcf, hx3⟩⟩ := hK.cm
  have HX2 := hid hx2
  have HX3 := hid hx3
  have HHo := hid hho
  have H13 := hid h13
  have H21 := hid h21
  have hbA := hid ((Below.refl w.heap.size w).alloc (Nat.le_refl _) (.cells #[.int .i64 op, .int .i64 a, .int .i64 b, .int .i64 n] 32))
  clear hx2 hx3 hK hho h13 h21 c5 c6 c4
  have hop2 : 0 ≤ op ∧ op ≤ 22 := by unfold Cd.fits at hop; simpa using hop
  have hcs : op = 0 ∨ op = 1 ∨ op = 2 ∨ op = 3 ∨ op = 4 ∨ op = 5 ∨ op = 6 ∨ op = 7 ∨ op = 8 ∨ op = 9 ∨ op = 10 ∨ op = 11 ∨ op = 12 ∨ op = 14 ∨ op = 15 ∨ op = 16 ∨ op = 17 ∨ op = 18 ∨ op = 19 ∨ op = 20 ∨ op = 22 ∨ op = 13 ∨ op = 21 := by omega
  clear hop hop2
  rcases hcs with h | h | h | h | h | h | h | h | h | h | h | h | h | h | h | h | h | h | h | h | h | h | h
  · subst h
    go_enter Try.func38, Try.ntmps38
    go_wp2
    exact tak_fin rfl rfl (by simp [Cd.takes]) hbA.out
  · subst h
    go_enter Try.func38, Try.ntmps38
    go_wp2
    exact tak_fin rfl rfl (by simp [Cd.takes]) hbA.out
  · subst h
    go_enter Try.func38, Try.ntmps38
    go_wp2
    exact tak_fin rfl rfl (by simp [Cd.takes]) hbA.out
  · subst h
    go_enter Try.func38, Try.ntmps38
    go_wp2
    exact tak_fin rfl rfl (by simp [Cd.takes]) hbA.out
  · subst h
    go_enter Try.func38, Try.ntmps38
    go_wp2
    exact tak_fin rfl rfl (by simp [Cd.takes]) hbA.out
  · subst h
    go_enter Try.func38, Try.ntmps38
    go_wp2
    exact tak_fin rfl rfl (by simp [Cd.takes]) hbA.out
  · subst h
    go_enter Try.func38, Try.ntmps38
    go_wp2
    exact tak_fin rfl rfl (by simp [Cd.takes]) hbA.out
  · subst h
    go_enter Try.func38, Try.ntmps38
    go_wp2
    exact tak_fin rfl rfl (by simp [Cd.takes]) hbA.out
  · subst h
    go_enter Try.func38, Try.ntmps38
    go_wp2
    exact tak_fin rfl rfl (by simp [Cd.takes]) hbA.out
  · subst h
    go_enter Try.func38, Try.ntmps38
    go_wp2
    exact tak_fin rfl rfl (by simp [Cd.takes]) hbA.out
  · subst h
    go_enter Try.func38, Try.ntmps38
    go_wp2
    exact tak_fin rfl rfl (by simp [Cd.takes]) hbA.out
  · subst h
    go_enter Try.func38, Try.ntmps38
    go_wp2
    exact tak_fin rfl rfl (by simp [Cd.takes]) hbA.out
  · subst h
    go_enter Try.func38, Try.ntmps38
    go_wp2
    exact tak_fin rfl rfl (by simp [Cd.takes]) hbA.out
  · subst h
    go_enter Try.func38, Try.ntmps38
    go_wp2
    exact tak_fin rfl rfl (by simp [Cd.takes]) hbA.out
  · subst h
    go_enter Try.func38, Try.ntmps38
    go_wp2
    exact tak_fin rfl rfl (by simp [Cd.takes]) hbA.out
  · subst h
    go_enter Try.func38, Try.ntmps38
    go_wp2
    exact tak_fin rfl rfl (by simp [Cd.takes]) hbA.out
  · subst h
    go_enter Try.func38, Try.ntmps38
    go_wp2
    exact tak_fin rfl rfl (by simp [Cd.takes]) hbA.out
  · subst h
    go_enter Try.func38, Try.ntmps38
    go_wp2
    exact tak_fin rfl rfl (by simp [Cd.takes]) hbA.out
  · subst h
    go_enter Try.func38, Try.ntmps38
    go_wp2
    exact tak_fin rfl rfl (by simp [Cd.takes]) hbA.out
  · subst h
    go_enter Try.func38, Try.ntmps38
    go_wp2
    exact tak_fin rfl rfl (by simp [Cd.takes]) hbA.out
  · subst h
    go_enter Try.func38, Try.ntmps38
    go_wp2
    exact tak_fin rfl rfl (by simp [Cd.takes]) hbA.out
  · subst h
    obtain ⟨h0, h1⟩ := H13.out rfl
    obtain ⟨m, rfl⟩ := Int.eq_ofNat_of_zero_le h0
    have hm : m < C.funs.length := by omega
    obtain ⟨f2, hf2, _, _, hne⟩ := at_some hm
    obtain ⟨g, k, rfl, hcell⟩ := HX3.out hne
    have e0 := (hcell m f2 hf2).1
    have hgl : g < w.heap.size := block_lt_of_cell e0
    have HT : Hid ((Cd.takes C ⟨13, (m : Int), b, n⟩).1 = f2.free) := by simp [Hid, Cd.takes, hf2]
    clear hcell hne
    go_enter Try.func38, Try.ntmps38
    go_wp2
    go_quiet (fail)
    go_wp2
    exact tak_fin rfl rfl HT.out (below_drewN hbA.out)
  · subst h
    obtain ⟨h0, h1⟩ := H21.out rfl
    obtain ⟨m, rfl⟩ := Int.eq_ofNat_of_zero_le h0
    have hm : m < C.hans.length := by omega
    obtain ⟨f2, hf2, _, hmem, hne⟩ := at_some hm
    obtain ⟨g, k, rfl, hcell⟩ := HX2.out hne
    obtain ⟨q0, u, e0, ai, ci, rfl, _, _⟩ := hcell m f2 hf2
    have hgl : g < w.heap.size := block_lt_of_cell e0
    have hol := HHo.out f2 hmem
    have HT : Hid ((Cd.takes C ⟨21, (m : Int), b, n⟩).1 = 2 + f2.ops.length) := by simp [Hid, Cd.takes, hf2]
    have hw : IntKind.i64.wrap (2 + (f2.ops.length : Int)) = 2 + f2.ops.length := by rw [IntKind.wrap_i64]; omega
    clear hcell hne
    go_enter Try.func38, Try.ntmps38
    go_wp2
    go_quiet (fail)
    go_wp2
    exact tak_fin rfl rfl HT.out (below_drewN hbA.out)

/-- What is known stands in a row. -/
def encK (o : Option Int) : Int := o.getD (-1)
def KR (w : World) (g n : Nat) (K : Cd.Kn) : Prop := w.rowIs g 3 (n + 1) (fun j => .int .i64 (encK (K j)))
def knV (g n : Nat) : Value := .slice (some ⟨g, 0, none⟩) (n + 1) (n + 1)
theorem KR.keep {w w' : World} {g n : Nat} {K : Cd.Kn} (h : KR w g n K) (hb : w'.heap[g]? = w.heap[g]?) : KR w' g n K := by
  obtain ⟨c, h1, h2⟩ := h
  exact ⟨c, hb.trans h1, h2⟩
theorem KR.lt {w : World} {g n : Nat} {K : Cd.Kn} (h : KR w g n K) : g < w.heap.size := by
  obtain ⟨c, h1, h2⟩ := h
  exact (Array.getElem?_eq_some_iff.1 h1).1
theorem KR.put {w : World} {g n : Nat} {K : Cd.Kn} (h : KR w g n K) (a : Nat) (v : Int) : KR (w.setCell ⟨g, a, none⟩ (.int .i64 v)) g n (K.put a v) := by
  refine (World.rowIs.set h a _).congr ?_
  intro j hj
  unfold Cd.Kn.put
  by_cases e : j = a
  · rw [if_pos e, if_pos (by omega)]; rfl
  · rw [if_neg e, if_neg (by omega)]
/-- What learning one place leaves. -/
def LnPost (w : World) (g n : Nat) (R : Option Cd.Kn) (e : Ending) (w' : World) : Prop := w.grownBy w' (some g) ∧ match R with
  | none => e = .returned (.bool false)
  | some K' => e = .returned (.bool true) ∧ KR w' g n K'
set_option maxHeartbeats 4000000 in
theorem learn_c (C : Cd.Code) (f : Cd.Fun) (vb vc vd v : Value) (kB fn g n : Nat) (K : Cd.Kn) (a : Nat) (q : Int) (w : World) (hK : Kk C f vb vc vd v kB fn (knV g n) w) (hR : KR w g n K) (ha : a ≤ n) (hn : n ≤ 65535) (hq : 0 ≤ q) (hv : ∀ b m, K b = some m → 0 ≤ m) :
    Calls Try.prog 42 #[.pointer (some ⟨kB, 0, none⟩), .int .i64 a, .int .i64 q] w (LnPost w g n (Cd.flowP q [(a : Int)] K)) := by
  obtain ⟨_, c4, c5, c6, _⟩ := hK.cells
  have hkB := hK.lt
  unfold knV at c6
  have r0 : w.cell? ⟨g, a, none⟩ = _ := World.rowIs.cell hR (by omega : a < n + 1)
  have rf := World.rowIs.frozen hR a
  have hal : (a : Int) < (n : Int) + 1 := by omega
  have hal2 : a < n + 1 := by omega
  have HR := hid hR
  have HV := hid hv
  have hgk : g ≠ kB := by
    intro e
    obtain ⟨c, h1, h2, _⟩ := hR
    have h3 := hK.hk
    rw [← e, h1] at h3
    simp at h3
  clear hK hR hv c4 c5
  cases hKa : K a with
  | none =>
    have HP : Hid (Cd.flowP q [(a : Int)] K = some (K.put a q)) := by simp [Hid, Cd.flowP, hKa]
    rw [hKa] at r0
    unfold encK at r0
    dsimp only [Option.getD_none] at r0
    have hqq : (q == q) = true := by simp
    go_enter Try.func42, Try.ntmps42
    go_wp2
    go_ret
    rw [HP.out]
    exact ⟨grown_set (grown_refl _ _) _, rfl, HR.out.put a q⟩
  | some m =>
    have hm0 := HV.out _ _ hKa
    rw [hKa] at r0
    unfold encK at r0
    dsimp only [Option.getD_some] at r0
    have hm1 : (m == -1) = false := by simp; omega
    by_cases e : m = q
    · have HP : Hid (Cd.flowP q [(a : Int)] K = some (K.put a q)) := by simp [Hid, Cd.flowP, hKa, e]
      have hKe : K.put a q = K := by
        funext b
        unfold Cd.Kn.put
        split
        · rename_i eb; rw [eb, hKa, e]
        · rfl
      subst e
      go_enter Try.func42, Try.ntmps42
      go_wp2
      go_ret
      rw [HP.out]
      exact ⟨grown_refl _ _, rfl, by rw [hKe]; exact HR.out⟩
    · have HP : Hid (Cd.flowP q [(a : Int)] K = none) := by simp [Hid, Cd.flowP, hKa, e]
      have he : (m == q) = false := by simpa using e
      go_enter Try.func42, Try.ntmps42
      go_wp2
      go_ret
      rw [HP.out]
      exact ⟨grown_refl _ _, rfl⟩
end Go.Proofs.Ytkfjjkpphpakbaa
