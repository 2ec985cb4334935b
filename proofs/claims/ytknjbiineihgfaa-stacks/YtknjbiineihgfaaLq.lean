/-
  For the round of Cut.
-/
import Derived.Test.YtknjbiineihgfaaLp
set_option linter.unusedVariables false
set_option linter.unusedSimpArgs false
namespace Go.Proofs.Ytknjbiineihgfaa
open Go.RowKit

section
variable {w0 w w' : World} {g : Gh} {j : Bool} {T : List Sg} {k : Int} {deep : Bool} {e : Ending}
theorem CutG.no (h : CutG w0 g j T k deep e w') (h0 : (findN k T (T.length - 1)).1 = 0) : e = .returned (.tuple #[.pointer none, .int .i64 0, .bool false]) ∧ Mem w0 g w' := by
  rcases h with ⟨_, h1, h2⟩ | ⟨n, _, _, _, _, _, _, _, _, _, h1, _⟩
  · exact ⟨h1, h2⟩
  · omega
theorem CutG.yes {n : Nat} {y : Sg} (h : CutG w0 g j T k deep e w') (h1 : (findN k T (T.length - 1)).1 = n + 1) (hy : T[n + 1]? = some y) :
    ∃ pb u PS pz D v S z, e = .returned (.tuple #[.pointer (some ⟨pb, 0, none⟩), .int .i64 y.tag, .bool true]) ∧ Mem w0 (g.setSt j D v S z) w' ∧ (S ++ [z]).map Sn.s = T.take (n + 1) ∧ PcM D w' pb u PS pz ∧ (PS ++ [pz]).map Sn.s = (if deep then y else unS y) :: T.drop (n + 2) := by
  rcases h with ⟨h2, _⟩ | ⟨n2, y2, pb, u, PS, pz, D, v, S, z, h2, h3, h4⟩
  · omega
  · obtain rfl : n2 = n := by omega
    rw [hy] at h3
    cases h3
    exact ⟨pb, u, PS, pz, D, v, S, z, h4⟩
theorem RCutG.no (h : RCutG w0 g j T k deep e w') (h0 : (findN k T (T.length - 1)).1 = 0) : e = .returned (.tuple #[.slice none 0 0, .int .i64 0, .bool false]) ∧ Mem w0 g w' := by
  rcases h with ⟨_, h1, h2⟩ | ⟨n, _, _, _, _, _, h1, _⟩
  · exact ⟨h1, h2⟩
  · omega
theorem RCutG.yes {n : Nat} {y : Sg} (h : RCutG w0 g j T k deep e w') (h1 : (findN k T (T.length - 1)).1 = n + 1) (hy : T[n + 1]? = some y) :
    ∃ q M v L, e = .returned (.tuple #[q, .int .i64 y.tag, .bool true]) ∧ Mem w0 (g.setRt j v L) w' ∧ L.map Rn.s = T.take (n + 1) ∧ RsM w' q M ∧ M.map Rn.s = (if deep then y else unS y) :: T.drop (n + 2) ∧ (∀ ρ i, (g.setRt j v L).own ρ i → rown q M i → False) ∧ ∀ i, rown q M i → w0.heap.size ≤ i := by
  rcases h with ⟨h2, _⟩ | ⟨n2, y2, q, M, v, L, h2, h3, h4⟩
  · omega
  · obtain rfl : n2 = n := by omega
    rw [hy] at h3
    cases h3
    exact ⟨q, M, v, L, h4⟩
theorem Mem.flat (h : Mem w0 g w) {gr cap : Nat} (hrv : g.rv j = .slice (some ⟨gr, 0, none⟩) (g.L j).length cap) (hT : (g.L j).map Rn.s = T) (hL : (g.L j).length < 1000000) (hl : ∀ r ∈ g.L j, r.s.l.length < 1000000000) (hF : cntT T < 1000000000) :
    Calls Try.prog 19 #[.slice (some ⟨gr, 0, none⟩) (g.L j).length cap] w fun e w' => ∃ va vb, e = .returned (.tuple #[va, vb]) ∧ FlIn w w' va vb (flatF 0 T) (flatT 0 T) := by
  have hr := (h.rt j).rs
  rw [hrv] at hr
  have hrd := hr.read 0
  rw [List.drop_zero, Nat.zero_mul] at hrd
  have e1 : ∀ (T : List Sg) (i : Nat), (flatF i T).length = cntT T := by
    intro T
    induction T with
    | nil => intro i; rfl
    | cons a r ih => intro i; simp [flatF, ih (i + 1), cntT]
  have := flat_any w gr cap (g.L j) hrd (by omega) hl (by rw [hT, e1]; exact hF) (by have := flatT_len ((g.L j).map Rn.s) 0; simp at this; omega)
  rw [hT] at this
  exact this
/-- The frame's own word on what it holds. -/
theorem fr2_self {a : Act} (h : a.tmps.size = 354) (hd : a.defers = []) {jj : Value} (e : a.tmps[37]? = some jj) : Fr2 (fun i => a.tmps.getD i undef) a jj := by
  refine ⟨h, hd, e, fun i hi => ?_⟩
  have hi2 : i < a.tmps.size := by
    rw [h]
    simp only [List.mem_cons, List.not_mem_nil, or_false] at hi
    omega
  simp [Array.getD_eq_getD_getElem?, hi2]
theorem Try.infoPc : (Try.prog.info? 40).map (fun i => (i.zero, i.size, i.bytes)) = some (some (.pointer none), 1, 8) := by kernel_rfl
theorem Try.infoRs : (Try.prog.info? 47).map (fun i => (i.zero, i.size, i.bytes)) = some (some (.slice none 0 0), 1, 24) := by kernel_rfl
theorem new_two (w : World) (k : Int) : ∀ W, ((w.alloc (.cells #[.int .i64 k] 3)).alloc (.cells #[.slice none 0 0] 39)) = W → Ch (fun _ => False) w W ∧ W.cell? ⟨w.heap.size, 0, none⟩ = some (.int .i64 k) ∧ Ask W (w.heap.size + 1) (.slice none 0 0) [] := by
  rintro W rfl
  refine ⟨((Ch.refl _ w).al _).al _, ?_, ⟨?_, ?_, ?_⟩⟩
  · have := (Below.heap_alloc (w.alloc (.cells #[.int .i64 k] 3)) (.cells #[.slice none 0 0] 39) w.heap.size (by simp)).trans (World.alloc_heap_new w (.cells #[.int .i64 k] 3))
    simp [World.cell?, this]
  · have := World.alloc_heap_new (w.alloc (.cells #[.int .i64 k] 3)) (.cells #[.slice none 0 0] 39)
    rwa [World.size_alloc] at this
  · exact World.ownsRow_nil _ _ _ _
  · simp [Value.ownBlock]
theorem Pl.cut {m n : Nat} (h : Pl g m) {D : Nat → Prop} {v rv : Value} {S : List Sn} {z : Sn} {L : List Rn} {x : Pc} {vp vq : Value} {y : Sg} (hT : (g.S j ++ [g.z j]).map Sn.s = T) (hy : T[n + 1]? = some y) (h1 : (S ++ [z]).map Sn.s = T.take (n + 1)) (h2 : L.map Rn.s = T.take (n + 1))
    (h3 : (x.S ++ [x.z]).map Sn.s = (if deep then y else unS y) :: T.drop (n + 2)) (h4 : x.M.map Rn.s = (if deep then y else unS y) :: T.drop (n + 2)) : Pl (((g.setSt j D v S z).setRt j rv L).add x vp vq) (m + 1) := by
  have hs := h.s j
  rw [hT] at hs
  have hsn := hs.n
  have hsc := hs.c
  have hT1 : Tm (T.take (n + 1)) (m + 1) := by
    refine ⟨by simp; omega, ?_, ?_⟩
    · have : cntT T = cntT (T.take (n + 1)) + cntT (T.drop (n + 1)) := by rw [← cntT_append, List.take_append_drop]
      omega
    · obtain ⟨a, r, e, ha⟩ := hs.f
      exact ⟨a, r.take n, by rw [e]; rfl, ha⟩
  have hp := h.set (j := j) (D := D) (v := v) (rv := rv) h1 h2 hT1
  have hTp : Tp ((x.S ++ [x.z]).map Sn.s) (m + 1) := by
    rw [h3]
    refine ⟨by simp; omega, ?_⟩
    have e2 : T.drop (n + 1) = y :: T.drop (n + 2) := by
      have hlt : n + 1 < T.length := (List.getElem?_eq_some_iff.1 hy).1
      rw [List.drop_eq_getElem_cons hlt]
      congr 1
      exact (List.getElem?_eq_some_iff.1 hy).2
    have e1 : cntT T = cntT (T.take (n + 1)) + cntT (T.drop (n + 1)) := by rw [← cntT_append, List.take_append_drop]
    rw [e2] at e1
    have e3 : cntT ((if deep then y else unS y) :: T.drop (n + 2)) = cntT (y :: T.drop (n + 2)) := by cases deep <;> simp [cntT, unS]
    rw [e3]
    omega
  refine ⟨hp.s, hp.l, fun q hq => ?_, fun q hq => ?_, ?_⟩
  · rcases List.mem_append.1 (show q ∈ g.P ++ [x] from hq) with e | e
    · exact hp.p q e
    · obtain rfl : q = x := by simpa using e
      exact hTp
  · rcases List.mem_append.1 (show q ∈ g.P ++ [x] from hq) with e | e
    · exact hp.q q e
    · obtain rfl : q = x := by simpa using e
      rw [h3, h4]
  · have := h.k
    show (g.P ++ [x]).length ≤ m + 1
    simp
    omega
end
/-- What a round of Cut holds besides: the tags that were asked about, the number. -/
structure CutS (N P Q : Nat) (k : Int) (va : Value) (fa : List Int) (w : World) : Prop where
  ask : Ask w P va fa
  far : ∀ i, own P va i → N ≤ i
  q : w.cell? ⟨Q, 0, none⟩ = some (.int .i64 k)
  qn : N ≤ Q
theorem CutS.keep {N P Q : Nat} {k : Int} {va : Value} {fa : List Int} {w w' : World} {O : Nat → Prop} (h : CutS N P Q k va fa w) (hc : Ch O w w') (hO : ∀ i, O i → i < N) : CutS N P Q k va fa w' :=
  ⟨h.ask.keep (fun i hi => hc.same i (h.ask.lt hi) (fun e => by have := h.far i hi; have := hO i e; omega)), h.far, (hc.cell (p := ⟨Q, 0, none⟩) (block_lt_of_cell h.q) (fun e => by have := hO _ e; have := h.qn; simp at *; omega)).trans h.q, h.qn⟩
theorem cutS_of {N b : Nat} {v va : Value} {k : Int} {fa : List Int} {W w1 : World} (hA : Ask w1 (N + 1) va fa) (hm : More W (own (N + 1) (.slice none 0 0)) (own (N + 1) va)) (hW : W.heap.size = N + 2) (hc : Ch (fun i => own b v i ∨ own (N + 1) (.slice none 0 0) i) W w1) (hb : ∀ i, own b v i → i < N)
    (hQ : W.cell? ⟨N, 0, none⟩ = some (.int .i64 k)) : CutS N (N + 1) N k va fa w1 := by
  have hP : ∀ i, own (N + 1) (.slice none 0 0) i → i = N + 1 := fun i hi => by
    rcases hi with e | e
    · exact e
    · cases e
  refine ⟨hA, fun i hi => ?_, (hc.cell (p := ⟨N, 0, none⟩) (by simp; omega) (fun e => ?_)).trans hQ, Nat.le_refl _⟩
  · rcases hm i hi with e | e
    · have := hP i e; omega
    · omega
  · rcases e with e | e
    · have := hb _ e; simp at this
    · have := hP _ e; simp at this
theorem Mem.ycell {w0 w : World} {g : Gh} {j : Bool} (h : Mem w0 g w) {V : Value} (hrv : g.rv j = V) : w.cell? ⟨g.c j, 0, none⟩ = some V := by rw [← hrv]; exact (h.rt j).cell.1
theorem loopB2 {W : World} {P Q tc : Nat} {tt : Option Addr} {va : Value} {fa : List Int} {tg : List (Int × Int)} {k : Int} (a0 : Act) (Q0 : Exit → Act → World → Prop) (hsz : a0.tmps.size = 354) (hdf : a0.defers = []) (h37 : a0.tmps[37]? = some (.int .i64 0))
    (h26 : a0.tmps.getD 26 undef = .pointer (some ⟨Q, 0, none⟩)) (h28 : a0.tmps.getD 28 undef = .pointer (some ⟨P, 0, none⟩)) (h33 : a0.tmps.getD 33 undef = .slice tt tg.length tc) (hQ0 : ∀ c a a' w, a.defers = a'.defers → Q0 (.panic c) a w → Q0 (.panic c) a' w) (hA : Ask W P va fa) (hQ : W.cell? ⟨Q, 0, none⟩ = some (.int .i64 k))
    (hT : W.ownsRow 0 52 2 (.slice tt tg.length tc) tg.length (pairCells tg)) (hpre : ∃ r, (tg.map (fun x => x.2)).reverse = fa ++ r) (hno : ∀ j x, fa[j]? = some x → j + 1 < fa.length → ¬ x.tmod 3 = k) (htl : tg.length < 1000000000)
    (hexit : ∀ a' w', Fr2 (fun i => a0.tmps.getD i undef) a' (.int .i64 (fa.length : Nat)) → Same W w' → Q0 (.exit 3) a' w') : Code.wp Try.prog (Code.loop ((firstLoop ((Try.f3.body.bind firstLoop).getD .skip)).getD .skip)) Q0 a0 W :=
  loopB (fun i => a0.tmps.getD i undef) Q0 hQ0 h26 h28 h33 hA hQ hT hpre hno htl a0 (fr2_self hsz hdf h37) hexit
theorem new_one (w : World) (v : Value) (T : TypeId) : ∀ j u, ([v] : List Value)[j]? = some u → (w.alloc (.cells #[v] T)).cell? ((⟨w.heap.size, 0, none⟩ : Addr).add j) = some u := by
  intro j u hj
  have hb := World.alloc_heap_new w (.cells #[v] T)
  rw [add_cell]
  simp only [World.cell?, hb]
  simpa using hj
end Go.Proofs.Ytknjbiineihgfaa
