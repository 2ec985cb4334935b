/-
  The program's reader: a function.
  The program's reader: the head, the end.
  The program's reader: the head for every text, the end, and the lists as plain functions.
-/
import Derived.Test.YtpjbfdpblgjmfaaGreatDoorRf5
set_option linter.unusedVariables false
set_option linter.unusedSimpArgs false
namespace Go.Proofs.YtpjbfdpblgjmfaaGreatDoor
open Go.RowKit Go.Lib

theorem ins_many (s : List UInt8) : ∀ (n : Nat) (r : Cd.Rd), Cd.Rd.insL s n r = Cd.Rd.manyL (fun r => r.ins s) n r
  | 0, _ => rfl
  | n + 1, r => by
    unfold Cd.Rd.insL Cd.Rd.manyL
    by_cases h : r.fk = 0
    · rw [if_pos h, if_pos h]
      dsimp only
      rw [ins_many s n]
    · rw [if_neg h, if_neg h]
def FunPostP (b : Nat) (s : List UInt8) (W : World) := EPost RFun (fun cs => ∃ (a c : Int) (va : Option Addr) (vn vc : Nat), cs = [.int .i64 a, .int .i64 c, .slice va vn vc]) (fun cs => .agg cs.toArray) b s W
theorem fun_finP {b : Nat} {s : List UInt8} {W w' : World} {q : Cd.Fun × Cd.Rd} {a' : Act} {oB : Nat} {x y : Int} {va : Option Addr} {vn vc : Nat} {ev : Value} (hd : a'.defers = []) (h2 : a'.tmps[2]? = some (.pointer (some ⟨oB, 0, none⟩))) (h3 : a'.tmps[3]? = some ev) (hB : w'.heap[oB]? = some (.cells #[.int .i64 x, .int .i64 y, .slice va vn vc] 85 (0, 0))) (hev : errV q.2 = ev) (hp : PM w' b s q.2.pos) (hg : W.grownBy w' (some b)) (hq : q.2.pos ≤ s.length) (hr : q.2.fk = 0 → q.2.fa = 0 ∧ q.1.free = x ∧ q.1.slots = y ∧ ∃ D, LsM RIns 4 w' D (.slice va vn vc) q.1.ins ∧ ∀ k, D k → W.heap.size ≤ k ∧ k < w'.heap.size ∧ k ≠ b) : bodyPost Tryz.prog Tryz.f55 (FunPostP b s W q) .ret a' w' := by
  have c0 : w'.cell? ⟨oB, 0, none⟩ = some (.int .i64 x) := by simp [World.cell?, hB]
  have c1 : w'.cell? ⟨oB, 1, none⟩ = some (.int .i64 y) := by simp [World.cell?, hB]
  have c2 : w'.cell? ⟨oB, 2, none⟩ = some (.slice va vn vc) := by simp [World.cell?, hB]
  refine bodyPost_ret (v := .tuple #[.agg #[.int .i64 x, .int .i64 y, .slice va vn vc], ev]) ?_ hd ⟨[.int .i64 x, .int .i64 y, .slice va vn vc], ⟨x, y, va, vn, vc, rfl⟩, by rw [hev], hp, hg, hq, fun h => ?_⟩
  · simp [results, Tryz.results55, go_sem, h2, h3, c0, c1, c2]
  · obtain ⟨h1, h2, h3, D, h4, h5⟩ := hr h
    exact ⟨h1, D, ⟨va, vn, vc, by rw [h2, h3], h4⟩, h5⟩
theorem set_same4 {w : World} {o k i j l m : Nat} {x y z u : Value} (h : k ≠ o) : ((((w.setCell ⟨o, i, none⟩ x).setCell ⟨o, j, none⟩ y).setCell ⟨o, l, none⟩ z).setCell ⟨o, m, none⟩ u).heap[k]? = w.heap[k]? := by
  rw [Below.heap_setCell _ _ _ k (by dsimp only; omega), Below.heap_setCell _ _ _ k (by dsimp only; omega), Below.heap_setCell _ _ _ k (by dsimp only; omega), Below.heap_setCell _ _ _ k (by dsimp only; omega)]

set_option maxRecDepth 100000 in
set_option maxHeartbeats 8000000 in
theorem dfunction_c (W : World) (b : Nat) (s : List UInt8) (q : Nat) (h : PM W b s q) (hs : s.length ≤ 4000000) (hq : q ≤ s.length) :
    Calls Tryz.prog 55 #[.pointer (some ⟨b, 0, none⟩)] W (FunPostP b s W (Cd.Rd.fn s (Cd.Rd.at_ q))) := by
  have hbl := h.lt
  have HA := hid (number_c (W.alloc (.cells #[.int .i64 0, .int .i64 0, .slice none 0 0] 85)) b s q 2 (h.al _) hs hq (by omega))
  have hA1 := num_lt2 s q 2 (by omega)
  have hA2 := hid (num_fa s 2 q)
  have hA3 := num_le s 2 q hq
  have sA : Cd.sgn (Cd.Rd.num s 2 (Cd.Rd.at_ q)).1 = ((Cd.Rd.num s 2 (Cd.Rd.at_ q)).1 : Int) := Cd.sgn_small (by omega)
  rw [sA] at HA
  have HG : Hid (Cd.Rd.fn s (Cd.Rd.at_ q) = (⟨(Cd.Rd.num s 2 (Cd.Rd.at_ q)).1, ((Cd.Rd.num s 2 (Cd.Rd.at_ q)).2.num s 2).1, (Cd.Rd.manyL (fun r => r.ins s) (((Cd.Rd.num s 2 (Cd.Rd.at_ q)).2.num s 2).2.num s 2).1 (((Cd.Rd.num s 2 (Cd.Rd.at_ q)).2.num s 2).2.num s 2).2).1⟩, (Cd.Rd.manyL (fun r => r.ins s) (((Cd.Rd.num s 2 (Cd.Rd.at_ q)).2.num s 2).2.num s 2).1 (((Cd.Rd.num s 2 (Cd.Rd.at_ q)).2.num s 2).2.num s 2).2).2)) := by
    rw [Hid]
    unfold Cd.Rd.fn
    dsimp only
    rw [ins_many]
  have hB0 : (W.alloc (.cells #[.int .i64 0, .int .i64 0, .slice none 0 0] 85)).heap[W.heap.size]? = some (.cells #[.int .i64 0, .int .i64 0, .slice none 0 0] 85 (0, 0)) := World.alloc_heap_new W _
  clear h sA
  generalize Cd.Rd.num s 2 (Cd.Rd.at_ q) = ar at HA hA1 hA2 hA3 HG
  obtain ⟨A, rA⟩ := ar
  dsimp only at HA hA1 hA2 hA3 HG
  unfold ptrV NmPost at HA
  by_cases hrA : rA.fk = 0
  · rw [errV_ok hrA] at HA
    have erA := hA2.out hrA
    have erA2 : Cd.Rd.at_ rA.pos = rA := by rw [erA]; rfl
    have HBn := hid (fun (V : World) (hv : PM V b s rA.pos) => number_c V b s rA.pos 2 hv hs hA3 (by omega))
    have hB1' := num_lt2 s rA.pos 2 (by omega)
    have hB2' := hid (num_fa s 2 rA.pos)
    have hB3' := num_le s 2 rA.pos hA3
    have sB : Cd.sgn (Cd.Rd.num s 2 (Cd.Rd.at_ rA.pos)).1 = ((Cd.Rd.num s 2 (Cd.Rd.at_ rA.pos)).1 : Int) := Cd.sgn_small (by omega)
    rw [sB] at HBn
    rw [← erA2] at HG
    clear sB
    generalize Cd.Rd.num s 2 (Cd.Rd.at_ rA.pos) = br at HBn hB1' hB2' hB3' HG
    obtain ⟨B, rB⟩ := br
    dsimp only at HBn hB1' hB2' hB3' HG
    unfold ptrV NmPost at HBn
    replace erA := hid erA
    replace erA2 := hid erA2
    by_cases hrB : rB.fk = 0
    · rw [errV_ok hrB] at HBn
      have erB := hB2'.out hrB
      have erB2 : Cd.Rd.at_ rB.pos = rB := by rw [erB]; rfl
      have HF := hid (fun (V : World) (hv : PM V b s rB.pos) => list_ins V b s rB.pos 2 RIns (fun r => r.ins s) RIns.ok hv hs hB3' (by omega) (fun V2 q2 h2 hq2 => dinstr_c V2 b s q2 h2 hs hq2))
      rw [erB2] at HF
      generalize Cd.Rd.manyL (fun r => r.ins s) (Cd.Rd.num s 2 rB).1 (Cd.Rd.num s 2 rB).2 = fr at HF HG
      obtain ⟨o, r2⟩ := fr
      dsimp only at HG
      unfold ptrV LPost at HF
      dsimp only at HF
      replace erB := hid erB
      replace erB2 := hid erB2
      go_enter Tryz.func55, Tryz.ntmps55
      go_wp2_with (first
        | (go_at_call 83; refine HA.out.mono ?_; clear HA; rintro en w1 ⟨rfl, h1, hg1⟩
           have hB1 := (hg1.block W.heap.size (by simp) (by simp; omega)).trans hB0
           have k0 : w1.cell? ⟨W.heap.size, 0, none⟩ = some (.int .i64 0) := by simp [World.cell?, hB1]
           have k1 : w1.cell? ⟨W.heap.size, 1, none⟩ = some (.int .i64 0) := by simp [World.cell?, hB1]
           have k2 : w1.cell? ⟨W.heap.size, 2, none⟩ = some (.slice none 0 0) := by simp [World.cell?, hB1]
           have kf : ∀ i, w1.frozen? ⟨W.heap.size, i, none⟩ = false := fun i => by simp [World.frozen?, hB1]
           replace h1 := hid h1
           replace hg1 := hid (grown_trans (grown_alloc (grown_refl W (some b)) _) hg1)
           replace hB1 := hid (blk_set (i := 0) (v := .int .i64 (A : Int)) hB1))
        | (go_at_call 83; refine (HBn.out _ (h1.out.far (by omega))).mono ?_; clear HBn; rintro en w2 ⟨rfl, h2, hg2⟩
           have hB2 := (hg2.block W.heap.size (Array.getElem?_eq_some_iff.1 hB1.out).1 (by simp; omega)).trans hB1.out
           have j0 : w2.cell? ⟨W.heap.size, 0, none⟩ = some (.int .i64 (A : Int)) := by simp [World.cell?, hB2]
           have j1 : w2.cell? ⟨W.heap.size, 1, none⟩ = some (.int .i64 0) := by simp [World.cell?, hB2]
           have j2 : w2.cell? ⟨W.heap.size, 2, none⟩ = some (.slice none 0 0) := by simp [World.cell?, hB2]
           have jf : ∀ i, w2.frozen? ⟨W.heap.size, i, none⟩ = false := fun i => by simp [World.frozen?, hB2]
           replace h2 := hid h2
           replace hg2 := hid (grown_trans (grown_newc hg1.out (Nat.le_refl _)) hg2)
           replace hB2 := hid (blk_set (i := 1) (v := .int .i64 (B : Int)) hB2))
        | (go_at_call 89; refine (HF.out _ (h2.out.far (by omega))).mono ?_; clear HF; rintro en w3 ⟨va, vn, vc, rfl, h3, hg3, hq3, hd3⟩
           have hl3 := (Array.getElem?_eq_some_iff.1 hB2.out).1
           have hB3 := (hg3.block W.heap.size hl3 (by simp; omega)).trans hB2.out
           have m0 : w3.cell? ⟨W.heap.size, 0, none⟩ = some (.int .i64 (A : Int)) := by simp [World.cell?, hB3]
           have m1 : w3.cell? ⟨W.heap.size, 1, none⟩ = some (.int .i64 (B : Int)) := by simp [World.cell?, hB3]
           have m2 : w3.cell? ⟨W.heap.size, 2, none⟩ = some (.slice none 0 0) := by simp [World.cell?, hB3]
           have mf : ∀ i, w3.frozen? ⟨W.heap.size, i, none⟩ = false := fun i => by simp [World.frozen?, hB3]
           generalize hev : errV r2 = ev
           replace hev := hid hev
           replace h3 := hid h3
           replace hg3 := hid (grown_trans (grown_newc hg2.out (Nat.le_refl _)) hg3)
           replace hd3 := hid hd3
           replace hl3 := hid hl3
           replace hB3 := hid hB3)
        | go_in)
      rw [HG.out]
      refine fun_finP (x := A) (y := B) (va := va) (vn := vn) (vc := vc) (oB := W.heap.size) rfl rfl rfl ?_ hev.out ((((h3.out.far (by omega)).far (by omega)).far (by omega)).far (by omega)) (grown_newc (grown_newc (grown_newc (grown_newc hg3.out (Nat.le_refl _)) (Nat.le_refl _)) (Nat.le_refl _)) (Nat.le_refl _)) hq3 (fun h => ?_)
      · exact blk_set (blk_set (blk_set (blk_set hB3.out)))
      · obtain ⟨a1, D, a2, a3⟩ := hd3.out h
        have hl3' := hl3.out
        simp at hl3'
        refine ⟨a1, rfl, rfl, D, a2.keep RIns.ok (fun k hk => set_same4 ?_) (fun _ h => h), fun k hk => ?_⟩
        · have := (a3 k hk).1
          simp at this
          omega
        · obtain ⟨b1, b2, b3⟩ := a3 k hk
          simp at b1
          exact ⟨by omega, by simpa using b2, b3⟩
    · rw [errV_no hrB] at HBn
      rw [bad_num' hrB] at HG
      go_enter Tryz.func55, Tryz.ntmps55
      go_wp2_with (first
        | (go_at_call 83; refine HA.out.mono ?_; clear HA; rintro en w1 ⟨rfl, h1, hg1⟩
           have hB1 := (hg1.block W.heap.size (by simp) (by simp; omega)).trans hB0
           have k0 : w1.cell? ⟨W.heap.size, 0, none⟩ = some (.int .i64 0) := by simp [World.cell?, hB1]
           have k1 : w1.cell? ⟨W.heap.size, 1, none⟩ = some (.int .i64 0) := by simp [World.cell?, hB1]
           have k2 : w1.cell? ⟨W.heap.size, 2, none⟩ = some (.slice none 0 0) := by simp [World.cell?, hB1]
           have kf : ∀ i, w1.frozen? ⟨W.heap.size, i, none⟩ = false := fun i => by simp [World.frozen?, hB1]
           replace h1 := hid h1
           replace hg1 := hid (grown_trans (grown_alloc (grown_refl W (some b)) _) hg1)
           replace hB1 := hid (blk_set (i := 0) (v := .int .i64 (A : Int)) hB1))
        | (go_at_call 83; refine (HBn.out _ (h1.out.far (by omega))).mono ?_; clear HBn; rintro en w2 ⟨rfl, h2, hg2⟩
           have hB2 := (hg2.block W.heap.size (Array.getElem?_eq_some_iff.1 hB1.out).1 (by simp; omega)).trans hB1.out
           have j0 : w2.cell? ⟨W.heap.size, 0, none⟩ = some (.int .i64 (A : Int)) := by simp [World.cell?, hB2]
           have j1 : w2.cell? ⟨W.heap.size, 1, none⟩ = some (.int .i64 0) := by simp [World.cell?, hB2]
           have j2 : w2.cell? ⟨W.heap.size, 2, none⟩ = some (.slice none 0 0) := by simp [World.cell?, hB2]
           have jf : ∀ i, w2.frozen? ⟨W.heap.size, i, none⟩ = false := fun i => by simp [World.frozen?, hB2]
           replace h2 := hid h2
           replace hg2 := hid (grown_trans (grown_newc hg1.out (Nat.le_refl _)) hg2)
           replace hB2 := hid hB2)
        | go_in)
      rw [HG.out]
      refine fun_finP (x := A) (y := B) (va := none) (vn := 0) (vc := 0) (oB := W.heap.size) rfl rfl rfl ?_ (errV_no hrB) ((((h2.out.far (by omega)).far (by omega)).far (by omega)).far (by omega)) (grown_newc (grown_newc (grown_newc (grown_newc hg2.out (Nat.le_refl _)) (Nat.le_refl _)) (Nat.le_refl _)) (Nat.le_refl _)) hB3' (fun h => absurd h hrB)
      exact blk_set (blk_set (blk_set (blk_set hB2.out)))
  · rw [errV_no hrA] at HA
    rw [bad_num' hrA] at HG
    dsimp only at HG
    rw [bad_num' hrA] at HG
    go_enter Tryz.func55, Tryz.ntmps55
    go_wp2_with (first
      | (go_at_call 83; refine HA.out.mono ?_; clear HA; rintro en w1 ⟨rfl, h1, hg1⟩
         have hB1 := (hg1.block W.heap.size (by simp) (by simp; omega)).trans hB0
         have k0 : w1.cell? ⟨W.heap.size, 0, none⟩ = some (.int .i64 0) := by simp [World.cell?, hB1]
         have k1 : w1.cell? ⟨W.heap.size, 1, none⟩ = some (.int .i64 0) := by simp [World.cell?, hB1]
         have k2 : w1.cell? ⟨W.heap.size, 2, none⟩ = some (.slice none 0 0) := by simp [World.cell?, hB1]
         have kf : ∀ i, w1.frozen? ⟨W.heap.size, i, none⟩ = false := fun i => by simp [World.frozen?, hB1]
         replace h1 := hid h1
         replace hg1 := hid (grown_trans (grown_alloc (grown_refl W (some b)) _) hg1)
         replace hB1 := hid hB1)
      | go_in)
    rw [HG.out]
    refine fun_finP (x := A) (y := 0) (va := none) (vn := 0) (vc := 0) (oB := W.heap.size) rfl rfl rfl ?_ (errV_no hrA) ((((h1.out.far (by omega)).far (by omega)).far (by omega)).far (by omega)) (grown_newc (grown_newc (grown_newc (grown_newc hg1.out (Nat.le_refl _)) (Nat.le_refl _)) (Nat.le_refl _)) (Nat.le_refl _)) hA3 (fun h => absurd h hrA)
    exact blk_set (blk_set (blk_set (blk_set hB1.out)))
end Go.Proofs.YtpjbfdpblgjmfaaGreatDoor

namespace Go.Proofs.YtpjbfdpblgjmfaaGreatDoor
open Go.RowKit Go.Lib

theorem text1_ok {s : List UInt8} {p : Nat} {c : UInt8} (h : s[p]? = some c) : Cd.Rd.text s 1 (Cd.Rd.at_ p) = ([c], Cd.Rd.at_ (p + 1)) := by
  obtain ⟨hl, hc⟩ := List.getElem?_eq_some_iff.1 h
  unfold Cd.Rd.text
  rw [if_pos (by exact ⟨rfl, by show p + 1 ≤ s.length; omega⟩)]
  show ((s.drop p).take 1, _) = _
  rw [List.drop_eq_getElem_cons hl, hc]
  rfl
theorem text1_no {s : List UInt8} {p : Nat} (h : s.length ≤ p) : Cd.Rd.text s 1 (Cd.Rd.at_ p) = ([], ⟨p, 13, s.length⟩) := by
  unfold Cd.Rd.text
  rw [if_neg (by rintro ⟨_, h2⟩; have h3 : p + 1 ≤ s.length := h2; omega)]
  rfl
def HdPost (w : World) (b : Nat) (s : List UInt8) (r : Cd.Rd) (e : Ending) (w' : World) : Prop := e = .returned (errV r) ∧ (∃ p, p ≤ s.length ∧ PM w' b s p ∧ (r.fk = 0 → r = Cd.Rd.at_ 3 ∧ p = 3)) ∧ w.grownBy w' (some b)
theorem take1_ok {w : World} {b : Nat} {s : List UInt8} {p : Nat} {c : UInt8} (hc : s[p]? = some c) (hs : s.length ≤ 4000000) (h : PM w b s p) :
    Calls Tryz.prog 81 #[.pointer (some ⟨b, 0, none⟩), .int .i64 1] w (fun e w' => e = .returned (.tuple #[.string ⟨#[c]⟩, .nilIface]) ∧ PM w' b s (p + 1) ∧ w.grownBy w' (some b)) := by
  have hl := (List.getElem?_eq_some_iff.1 hc).1
  have := take_c w b s p 1 h hs (by omega) (by omega)
  rw [text1_ok hc] at this
  exact this
theorem take1_no {w : World} {b : Nat} {s : List UInt8} {p : Nat} (hc : s.length = p) (hs : s.length ≤ 4000000) (h : PM w b s p) :
    Calls Tryz.prog 81 #[.pointer (some ⟨b, 0, none⟩), .int .i64 1] w (fun e w' => e = .returned (.tuple #[.string ⟨#[]⟩, .iface 78 (.agg #[.int .i64 13, .int .i64 p])]) ∧ PM w' b s p ∧ w.grownBy w' (some b)) := by
  have := take_c w b s p 1 h hs (by omega) (by omega)
  rw [text1_no (by omega)] at this
  subst hc
  exact this
set_option maxHeartbeats 4000000 in
theorem head_end0  (w : World) (b : Nat) (s : List UInt8) (he : s = []) (h : PM w b s 0) (hs : s.length ≤ 4000000) :
    Calls Tryz.prog 48 #[.pointer (some ⟨b, 0, none⟩)] w (HdPost w b s (⟨3, 13, 0⟩)) := by
  have T0 := hid (fun (V : World) (hv : PM V b s 0) => take1_no (by rw [he]; rfl) hs hv)
  have hlen : 0 ≤ s.length := by rw [he]; simp
  have h0 := h
  clear h he
  go_enter Tryz.func48, Tryz.ntmps48
  go_wp2
  refine wp_loop_rounds 1 ?_
  rw [rounds_succ]
  go_wp2_with (first
    | (go_at_call 81; refine (T0.out _ h0).mono ?_; clear T0; rintro en w1 ⟨rfl, h1, hg1⟩
       replace h1 := hid h1
       replace hg1 := hid hg1)
    | go_in)
  refine bodyPost_ret (v := .iface 78 (.agg #[.int .i64 13, .int .i64 0])) (by simp [results, Tryz.results48, go_sem]) rfl ⟨rfl, ⟨0, hlen, h1.out, fun h => by cases h⟩, hg1.out⟩
set_option maxHeartbeats 4000000 in
theorem head_bad0 (x : UInt8) (t : List UInt8) (hx : x ≠ 69) (w : World) (b : Nat) (s : List UInt8) (he : s = x :: t) (h : PM w b s 0) (hs : s.length ≤ 4000000) :
    Calls Tryz.prog 48 #[.pointer (some ⟨b, 0, none⟩)] w (HdPost w b s (⟨3, 12, 0⟩)) := by
  have T0 := hid (fun (V : World) (hv : PM V b s 0) => take1_ok (c := x) (by rw [he]; rfl) hs hv)
  have hc0 : (!([x] == ((⟨#[69, 70, 49]⟩ : ByteArray).extract 0 1).toList)) = true := by
    rw [show (⟨#[69, 70, 49]⟩ : ByteArray).extract 0 1 = ⟨#[69]⟩ from rfl]
    simp [go_sem, hx]
  have hlen : 1 ≤ s.length := by rw [he]; simp
  have h0 := h
  clear h he
  go_enter Tryz.func48, Tryz.ntmps48
  go_wp2
  refine wp_loop_rounds 1 ?_
  rw [rounds_succ]
  go_wp2_with (first
    | (go_at_call 81; refine (T0.out _ h0).mono ?_; clear T0; rintro en w1 ⟨rfl, h1, hg1⟩
       replace h1 := hid h1
       replace hg1 := hid hg1)
    | go_in)
  refine bodyPost_ret (v := .iface 78 (.agg #[.int .i64 12, .int .i64 0])) (by simp [results, Tryz.results48, go_sem]) rfl ⟨rfl, ⟨1, hlen, h1.out, fun h => by cases h⟩, hg1.out⟩
set_option maxHeartbeats 4000000 in
theorem head_end1  (w : World) (b : Nat) (s : List UInt8) (he : s = [69]) (h : PM w b s 0) (hs : s.length ≤ 4000000) :
    Calls Tryz.prog 48 #[.pointer (some ⟨b, 0, none⟩)] w (HdPost w b s (⟨3, 13, 1⟩)) := by
  have T0 := hid (fun (V : World) (hv : PM V b s 0) => take1_ok (c := 69) (by rw [he]; rfl) hs hv)
  have T1 := hid (fun (V : World) (hv : PM V b s 1) => take1_no (by rw [he]; rfl) hs hv)
  have hc0 : (!([69] == ((⟨#[69, 70, 49]⟩ : ByteArray).extract 0 1).toList)) = false := by
    rw [show (⟨#[69, 70, 49]⟩ : ByteArray).extract 0 1 = ⟨#[69]⟩ from rfl]
    simp [go_sem]
  have hlen : 1 ≤ s.length := by rw [he]; simp
  have h0 := h
  clear h he
  go_enter Tryz.func48, Tryz.ntmps48
  go_wp2
  refine wp_loop_rounds 2 ?_
  rw [rounds_succ]
  go_wp2_with (first
    | (go_at_call 81; refine (T0.out _ h0).mono ?_; clear T0; rintro en w1 ⟨rfl, h1, hg1⟩
       replace h1 := hid h1
       replace hg1 := hid hg1)
    | go_in)
  rw [rounds_succ]
  go_wp2_with (first
    | (go_at_call 81; refine (T1.out _ h1.out).mono ?_; clear T1; rintro en w2 ⟨rfl, h2, hg2⟩
       replace h2 := hid h2
       replace hg2 := hid (grown_trans hg1.out hg2))
    | go_in)
  refine bodyPost_ret (v := .iface 78 (.agg #[.int .i64 13, .int .i64 1])) (by simp [results, Tryz.results48, go_sem]) rfl ⟨rfl, ⟨1, hlen, h2.out, fun h => by cases h⟩, hg2.out⟩
set_option maxHeartbeats 4000000 in
theorem head_bad1 (x : UInt8) (t : List UInt8) (hx : x ≠ 70) (w : World) (b : Nat) (s : List UInt8) (he : s = 69 :: x :: t) (h : PM w b s 0) (hs : s.length ≤ 4000000) :
    Calls Tryz.prog 48 #[.pointer (some ⟨b, 0, none⟩)] w (HdPost w b s (⟨3, 12, 1⟩)) := by
  have T0 := hid (fun (V : World) (hv : PM V b s 0) => take1_ok (c := 69) (by rw [he]; rfl) hs hv)
  have T1 := hid (fun (V : World) (hv : PM V b s 1) => take1_ok (c := x) (by rw [he]; rfl) hs hv)
  have hc0 : (!([69] == ((⟨#[69, 70, 49]⟩ : ByteArray).extract 0 1).toList)) = false := by
    rw [show (⟨#[69, 70, 49]⟩ : ByteArray).extract 0 1 = ⟨#[69]⟩ from rfl]
    simp [go_sem]
  have hc1 : (!([x] == ((⟨#[69, 70, 49]⟩ : ByteArray).extract 1 2).toList)) = true := by
    rw [show (⟨#[69, 70, 49]⟩ : ByteArray).extract 1 2 = ⟨#[70]⟩ from rfl]
    simp [go_sem, hx]
  have hlen : 2 ≤ s.length := by rw [he]; simp
  have h0 := h
  clear h he
  go_enter Tryz.func48, Tryz.ntmps48
  go_wp2
  refine wp_loop_rounds 2 ?_
  rw [rounds_succ]
  go_wp2_with (first
    | (go_at_call 81; refine (T0.out _ h0).mono ?_; clear T0; rintro en w1 ⟨rfl, h1, hg1⟩
       replace h1 := hid h1
       replace hg1 := hid hg1)
    | go_in)
  rw [rounds_succ]
  go_wp2_with (first
    | (go_at_call 81; refine (T1.out _ h1.out).mono ?_; clear T1; rintro en w2 ⟨rfl, h2, hg2⟩
       replace h2 := hid h2
       replace hg2 := hid (grown_trans hg1.out hg2))
    | go_in)
  refine bodyPost_ret (v := .iface 78 (.agg #[.int .i64 12, .int .i64 1])) (by simp [results, Tryz.results48, go_sem]) rfl ⟨rfl, ⟨2, hlen, h2.out, fun h => by cases h⟩, hg2.out⟩
set_option maxHeartbeats 4000000 in
theorem head_end2  (w : World) (b : Nat) (s : List UInt8) (he : s = [69, 70]) (h : PM w b s 0) (hs : s.length ≤ 4000000) :
    Calls Tryz.prog 48 #[.pointer (some ⟨b, 0, none⟩)] w (HdPost w b s (⟨3, 13, 2⟩)) := by
  have T0 := hid (fun (V : World) (hv : PM V b s 0) => take1_ok (c := 69) (by rw [he]; rfl) hs hv)
  have T1 := hid (fun (V : World) (hv : PM V b s 1) => take1_ok (c := 70) (by rw [he]; rfl) hs hv)
  have T2 := hid (fun (V : World) (hv : PM V b s 2) => take1_no (by rw [he]; rfl) hs hv)
  have hc0 : (!([69] == ((⟨#[69, 70, 49]⟩ : ByteArray).extract 0 1).toList)) = false := by
    rw [show (⟨#[69, 70, 49]⟩ : ByteArray).extract 0 1 = ⟨#[69]⟩ from rfl]
    simp [go_sem]
  have hc1 : (!([70] == ((⟨#[69, 70, 49]⟩ : ByteArray).extract 1 2).toList)) = false := by
    rw [show (⟨#[69, 70, 49]⟩ : ByteArray).extract 1 2 = ⟨#[70]⟩ from rfl]
    simp [go_sem]
  have hlen : 2 ≤ s.length := by rw [he]; simp
  have h0 := h
  clear h he
  go_enter Tryz.func48, Tryz.ntmps48
  go_wp2
  refine wp_loop_rounds 3 ?_
  rw [rounds_succ]
  go_wp2_with (first
    | (go_at_call 81; refine (T0.out _ h0).mono ?_; clear T0; rintro en w1 ⟨rfl, h1, hg1⟩
       replace h1 := hid h1
       replace hg1 := hid hg1)
    | go_in)
  rw [rounds_succ]
  go_wp2_with (first
    | (go_at_call 81; refine (T1.out _ h1.out).mono ?_; clear T1; rintro en w2 ⟨rfl, h2, hg2⟩
       replace h2 := hid h2
       replace hg2 := hid (grown_trans hg1.out hg2))
    | go_in)
  rw [rounds_succ]
  go_wp2_with (first
    | (go_at_call 81; refine (T2.out _ h2.out).mono ?_; clear T2; rintro en w3 ⟨rfl, h3, hg3⟩
       replace h3 := hid h3
       replace hg3 := hid (grown_trans hg2.out hg3))
    | go_in)
  refine bodyPost_ret (v := .iface 78 (.agg #[.int .i64 13, .int .i64 2])) (by simp [results, Tryz.results48, go_sem]) rfl ⟨rfl, ⟨2, hlen, h3.out, fun h => by cases h⟩, hg3.out⟩
set_option maxHeartbeats 4000000 in
theorem head_bad2 (x : UInt8) (t : List UInt8) (hx : x ≠ 49) (w : World) (b : Nat) (s : List UInt8) (he : s = 69 :: 70 :: x :: t) (h : PM w b s 0) (hs : s.length ≤ 4000000) :
    Calls Tryz.prog 48 #[.pointer (some ⟨b, 0, none⟩)] w (HdPost w b s (⟨3, 12, 2⟩)) := by
  have T0 := hid (fun (V : World) (hv : PM V b s 0) => take1_ok (c := 69) (by rw [he]; rfl) hs hv)
  have T1 := hid (fun (V : World) (hv : PM V b s 1) => take1_ok (c := 70) (by rw [he]; rfl) hs hv)
  have T2 := hid (fun (V : World) (hv : PM V b s 2) => take1_ok (c := x) (by rw [he]; rfl) hs hv)
  have hc0 : (!([69] == ((⟨#[69, 70, 49]⟩ : ByteArray).extract 0 1).toList)) = false := by
    rw [show (⟨#[69, 70, 49]⟩ : ByteArray).extract 0 1 = ⟨#[69]⟩ from rfl]
    simp [go_sem]
  have hc1 : (!([70] == ((⟨#[69, 70, 49]⟩ : ByteArray).extract 1 2).toList)) = false := by
    rw [show (⟨#[69, 70, 49]⟩ : ByteArray).extract 1 2 = ⟨#[70]⟩ from rfl]
    simp [go_sem]
  have hc2 : (!([x] == ((⟨#[69, 70, 49]⟩ : ByteArray).extract 2 3).toList)) = true := by
    rw [show (⟨#[69, 70, 49]⟩ : ByteArray).extract 2 3 = ⟨#[49]⟩ from rfl]
    simp [go_sem, hx]
  have hlen : 3 ≤ s.length := by rw [he]; simp
  have h0 := h
  clear h he
  go_enter Tryz.func48, Tryz.ntmps48
  go_wp2
  refine wp_loop_rounds 3 ?_
  rw [rounds_succ]
  go_wp2_with (first
    | (go_at_call 81; refine (T0.out _ h0).mono ?_; clear T0; rintro en w1 ⟨rfl, h1, hg1⟩
       replace h1 := hid h1
       replace hg1 := hid hg1)
    | go_in)
  rw [rounds_succ]
  go_wp2_with (first
    | (go_at_call 81; refine (T1.out _ h1.out).mono ?_; clear T1; rintro en w2 ⟨rfl, h2, hg2⟩
       replace h2 := hid h2
       replace hg2 := hid (grown_trans hg1.out hg2))
    | go_in)
  rw [rounds_succ]
  go_wp2_with (first
    | (go_at_call 81; refine (T2.out _ h2.out).mono ?_; clear T2; rintro en w3 ⟨rfl, h3, hg3⟩
       replace h3 := hid h3
       replace hg3 := hid (grown_trans hg2.out hg3))
    | go_in)
  refine bodyPost_ret (v := .iface 78 (.agg #[.int .i64 12, .int .i64 2])) (by simp [results, Tryz.results48, go_sem]) rfl ⟨rfl, ⟨3, hlen, h3.out, fun h => by cases h⟩, hg3.out⟩
set_option maxHeartbeats 4000000 in
theorem head_all3 (t : List UInt8) (w : World) (b : Nat) (s : List UInt8) (he : s = 69 :: 70 :: 49 :: t) (h : PM w b s 0) (hs : s.length ≤ 4000000) :
    Calls Tryz.prog 48 #[.pointer (some ⟨b, 0, none⟩)] w (HdPost w b s (Cd.Rd.at_ 3)) := by
  have T0 := hid (fun (V : World) (hv : PM V b s 0) => take1_ok (c := 69) (by rw [he]; rfl) hs hv)
  have T1 := hid (fun (V : World) (hv : PM V b s 1) => take1_ok (c := 70) (by rw [he]; rfl) hs hv)
  have T2 := hid (fun (V : World) (hv : PM V b s 2) => take1_ok (c := 49) (by rw [he]; rfl) hs hv)
  have hc0 : (!([69] == ((⟨#[69, 70, 49]⟩ : ByteArray).extract 0 1).toList)) = false := by
    rw [show (⟨#[69, 70, 49]⟩ : ByteArray).extract 0 1 = ⟨#[69]⟩ from rfl]
    simp [go_sem]
  have hc1 : (!([70] == ((⟨#[69, 70, 49]⟩ : ByteArray).extract 1 2).toList)) = false := by
    rw [show (⟨#[69, 70, 49]⟩ : ByteArray).extract 1 2 = ⟨#[70]⟩ from rfl]
    simp [go_sem]
  have hc2 : (!([49] == ((⟨#[69, 70, 49]⟩ : ByteArray).extract 2 3).toList)) = false := by
    rw [show (⟨#[69, 70, 49]⟩ : ByteArray).extract 2 3 = ⟨#[49]⟩ from rfl]
    simp [go_sem]
  have hlen : 3 ≤ s.length := by rw [he]; simp
  have h0 := h
  clear h he
  go_enter Tryz.func48, Tryz.ntmps48
  go_wp2
  refine wp_loop_rounds 4 ?_
  rw [rounds_succ]
  go_wp2_with (first
    | (go_at_call 81; refine (T0.out _ h0).mono ?_; clear T0; rintro en w1 ⟨rfl, h1, hg1⟩
       replace h1 := hid h1
       replace hg1 := hid hg1)
    | go_in)
  rw [rounds_succ]
  go_wp2_with (first
    | (go_at_call 81; refine (T1.out _ h1.out).mono ?_; clear T1; rintro en w2 ⟨rfl, h2, hg2⟩
       replace h2 := hid h2
       replace hg2 := hid (grown_trans hg1.out hg2))
    | go_in)
  rw [rounds_succ]
  go_wp2_with (first
    | (go_at_call 81; refine (T2.out _ h2.out).mono ?_; clear T2; rintro en w3 ⟨rfl, h3, hg3⟩
       replace h3 := hid h3
       replace hg3 := hid (grown_trans hg2.out hg3))
    | go_in)
  rw [rounds_succ]
  go_wp2
  refine bodyPost_ret (v := .nilIface) (by simp [results, Tryz.results48, go_sem]) rfl ⟨rfl, ⟨3, hlen, h3.out, fun _ => ⟨rfl, rfl⟩⟩, hg3.out⟩
end Go.Proofs.YtpjbfdpblgjmfaaGreatDoor

namespace Go.Proofs.YtpjbfdpblgjmfaaGreatDoor
open Go.RowKit Go.Lib

theorem dhead_c (w : World) (b : Nat) (s : List UInt8) (h : PM w b s 0) (hs : s.length ≤ 4000000) :
    Calls Tryz.prog 48 #[.pointer (some ⟨b, 0, none⟩)] w (HdPost w b s (Cd.Rd.head s 3 (Cd.Rd.at_ 3))) := by
  obtain ⟨r, hr⟩ : ∃ r, Cd.Rd.head s 3 (Cd.Rd.at_ 3) = r := ⟨_, rfl⟩
  obtain ⟨l, hl⟩ : ∃ l, s = l := ⟨_, rfl⟩
  rw [hr]
  rw [hl] at hr
  rcases l with _ | ⟨x, l⟩
  · obtain rfl : (⟨3, 13, 0⟩ : Cd.Rd) = r := by rw [← hr]; simp [Cd.Rd.head, Cd.head, Cd.Rd.no, Cd.Rd.at_]
    exact head_end0 w b s hl h hs
  by_cases hx : x = 69
  · subst hx
    rcases l with _ | ⟨x, l⟩
    · obtain rfl : (⟨3, 13, 1⟩ : Cd.Rd) = r := by rw [← hr]; simp [Cd.Rd.head, Cd.head, Cd.Rd.no, Cd.Rd.at_]
      exact head_end1 w b s hl h hs
    by_cases hx : x = 70
    · subst hx
      rcases l with _ | ⟨x, l⟩
      · obtain rfl : (⟨3, 13, 2⟩ : Cd.Rd) = r := by rw [← hr]; simp [Cd.Rd.head, Cd.head, Cd.Rd.no, Cd.Rd.at_]
        exact head_end2 w b s hl h hs
      by_cases hx : x = 49
      · subst hx
        obtain rfl : Cd.Rd.at_ 3 = r := by rw [← hr]; simp [Cd.Rd.head, Cd.head, Cd.Rd.at_]
        exact head_all3 l w b s hl h hs
      · obtain rfl : (⟨3, 12, 2⟩ : Cd.Rd) = r := by rw [← hr]; simp [Cd.Rd.head, Cd.head, Cd.Rd.no, Cd.Rd.at_, hx]
        exact head_bad2 x l hx w b s hl h hs
    · obtain rfl : (⟨3, 12, 1⟩ : Cd.Rd) = r := by
        rw [← hr]
        rcases l with _ | ⟨y, l⟩ <;> simp [Cd.Rd.head, Cd.head, Cd.Rd.no, Cd.Rd.at_, hx]
      exact head_bad1 x l hx w b s hl h hs
  · obtain rfl : (⟨3, 12, 0⟩ : Cd.Rd) = r := by
      rw [← hr]
      rcases l with _ | ⟨y, _ | ⟨z, l⟩⟩ <;> simp [Cd.Rd.head, Cd.head, Cd.Rd.no, Cd.Rd.at_, hx]
      all_goals (repeat' split) <;> simp_all
    exact head_bad0 x l hx w b s hl h hs

def endR (s : List UInt8) (r : Cd.Rd) : Cd.Rd := if r.fk = 0 ∧ r.pos < s.length then r.no 13 r.pos else r
set_option maxHeartbeats 2000000 in
theorem dend_c (w : World) (b : Nat) (s : List UInt8) (p : Nat) (h : PM w b s p) (hs : s.length ≤ 4000000) (hp : p ≤ s.length) :
    Calls Tryz.prog 56 #[.pointer (some ⟨b, 0, none⟩)] w (fun e w' => e = .returned (errV (endR s (Cd.Rd.at_ p))) ∧ ∃ n, w' = w.drewN n) := by
  obtain ⟨c0, c1, hf⟩ := h.cells
  have HL := hid (left_c w b s p h hs hp)
  unfold ptrV at HL
  clear h
  by_cases hl : p < s.length
  · have e : errV (endR s (Cd.Rd.at_ p)) = .iface 78 (.agg #[.int .i64 13, .int .i64 p]) := by
      unfold endR
      rw [if_pos ⟨rfl, hl⟩]
      rfl
    rw [e]
    have hg : (0 : Int) < ((s.length - p : Nat) : Int) := by omega
    generalize s.length - p = L at HL hg
    go_enter Tryz.func56, Tryz.ntmps56
    go_wp2_with (first
      | (go_at_call 85; refine HL.out.mono ?_; clear HL; rintro en w1 ⟨rfl, n1, hw1⟩; obtain rfl := hw1)
      | go_in)
    go_ret
    exact ⟨rfl, _, rfl⟩
  · have e : errV (endR s (Cd.Rd.at_ p)) = .nilIface := by
      unfold endR
      rw [if_neg (fun h => hl h.2)]
      rfl
    rw [e]
    have hL0 : s.length - p = 0 := by omega
    rw [hL0] at HL
    go_enter Tryz.func56, Tryz.ntmps56
    go_wp2_with (first
      | (go_at_call 85; refine HL.out.mono ?_; clear HL; rintro en w1 ⟨rfl, n1, hw1⟩; obtain rfl := hw1)
      | go_in)
    go_ret
    exact ⟨rfl, _, rfl⟩

theorem hans_many (s : List UInt8) : ∀ (n : Nat) (r : Cd.Rd), Cd.Rd.hansL s n r = Cd.Rd.manyL (fun r => r.han s) n r
  | 0, _ => rfl
  | n + 1, r => by
    unfold Cd.Rd.hansL Cd.Rd.manyL
    by_cases h : r.fk = 0
    · rw [if_pos h, if_pos h]
      dsimp only
      rw [hans_many s n]
    · rw [if_neg h, if_neg h]
theorem funs_many (s : List UInt8) : ∀ (n : Nat) (r : Cd.Rd), Cd.Rd.funsL s n r = Cd.Rd.manyL (fun r => r.fn s) n r
  | 0, _ => rfl
  | n + 1, r => by
    unfold Cd.Rd.funsL Cd.Rd.manyL
    by_cases h : r.fk = 0
    · rw [if_pos h, if_pos h]
      dsimp only
      rw [funs_many s n]
    · rw [if_neg h, if_neg h]
theorem num_back1 {s : List UInt8} {r : Cd.Rd} {m : Nat} (h : m < (r.num s 1).1) : (r.num s 1).2.pos - 1 = r.pos := by
  unfold Cd.Rd.num at h ⊢
  split
  · simp
  · rename_i hh; rw [if_neg hh] at h; simp at h
theorem gop_eq (s : List UInt8) (r : Cd.Rd) : gOp s r = (⟨((if 20 < (r.num s 1).1 then (r.num s 1).2.no 14 ((r.num s 1).2.pos - 1) else (r.num s 1).2).text s (r.num s 1).1).1, (((if 20 < (r.num s 1).1 then (r.num s 1).2.no 14 ((r.num s 1).2.pos - 1) else (r.num s 1).2).text s (r.num s 1).1).2.flag s).1⟩, (((if 20 < (r.num s 1).1 then (r.num s 1).2.no 14 ((r.num s 1).2.pos - 1) else (r.num s 1).2).text s (r.num s 1).1).2.flag s).2) := by
  unfold gOp Cd.Rd.txt
  dsimp only
  by_cases h : 20 < (r.num s 1).1
  · rw [num_back1 h]
  · rw [if_neg h, if_neg h]
theorem ops_many (s : List UInt8) : ∀ (n : Nat) (r : Cd.Rd), Cd.Rd.opsL s n r = Cd.Rd.manyL (gOp s) n r
  | 0, _ => rfl
  | n + 1, r => by
    unfold Cd.Rd.opsL Cd.Rd.manyL
    by_cases h : r.fk = 0
    · rw [if_pos h, if_pos h]
      dsimp only
      rw [ops_many s n, gop_eq]
    · rw [if_neg h, if_neg h]
theorem txt_big (s : List UInt8) (p : Nat) : Cd.Rd.txt s 2 65535 (Cd.Rd.at_ p) = (Cd.Rd.num s 2 (Cd.Rd.at_ p)).2.text s (Cd.Rd.num s 2 (Cd.Rd.at_ p)).1 := by
  unfold Cd.Rd.txt
  dsimp only
  rw [if_neg (by have := num_lt2 s p 2 (by omega); omega)]
theorem code_eq (s : List UInt8) (p : Nat) : Cd.Rd.code s (Cd.Rd.at_ p) =
    let t := Cd.Rd.txt s 2 65535 (Cd.Rd.at_ p)
    let o := Cd.Rd.manyL (gOp s) (t.2.num s 1).1 (t.2.num s 1).2
    let h := Cd.Rd.manyL (fun r => r.han s) (o.2.num s 2).1 (o.2.num s 2).2
    let f := Cd.Rd.manyL (fun r => r.fn s) (h.2.num s 2).1 (h.2.num s 2).2
    (⟨t.1, o.1, h.1, f.1⟩, endR s f.2) := by
  unfold Cd.Rd.code endR
  dsimp only
  rw [← txt_big, ops_many, hans_many, funs_many]
end Go.Proofs.YtpjbfdpblgjmfaaGreatDoor
