/-
  The program's SameRow.
-/
import Derived.Test.YtcogpcalghfghaaMVb
import Derived.LaidEqlPtr
set_option linter.unusedVariables false
set_option linter.unusedSimpArgs false
namespace Go.Proofs.Ytcogpcalghfghaa
open Go.RowKit
open Un (Bag Nm Gr)
variable {F : Nat → Prop}

theorem list57 (l : List Value) (h : l.length = 57) : ∃ V : Nat → Value, l = [V 0, V 1, V 2, V 3, V 4, V 5, V 6, V 7, V 8, V 9, V 10, V 11, V 12, V 13, V 14, V 15, V 16, V 17, V 18, V 19, V 20, V 21, V 22, V 23, V 24, V 25, V 26, V 27, V 28, V 29, V 30, V 31, V 32, V 33, V 34, V 35, V 36, V 37, V 38, V 39, V 40, V 41, V 42, V 43, V 44, V 45, V 46, V 47, V 48, V 49, V 50, V 51, V 52, V 53, V 54, V 55, V 56] ∧ ∀ i v, l[i]? = some v → V i = v := by
  refine ⟨fun i => l.getD i undef, ?_, fun i v hv => by simp [List.getD, hv]⟩
  have e : l = (List.range 57).map (fun i => l.getD i undef) := by
    apply List.ext_getElem?
    intro i
    by_cases hi : i < l.length
    · simp [List.getElem?_range (show i < 57 by omega), List.getD, hi]
    · rw [List.getElem?_eq_none (by omega), List.getElem?_eq_none (by simp; omega)]
  exact e
theorem fr57 {a : Act} (h : a.tmps.size = 57) (hd : a.defers = []) : ∃ V : Nat → Value, a = ⟨#[V 0, V 1, V 2, V 3, V 4, V 5, V 6, V 7, V 8, V 9, V 10, V 11, V 12, V 13, V 14, V 15, V 16, V 17, V 18, V 19, V 20, V 21, V 22, V 23, V 24, V 25, V 26, V 27, V 28, V 29, V 30, V 31, V 32, V 33, V 34, V 35, V 36, V 37, V 38, V 39, V 40, V 41, V 42, V 43, V 44, V 45, V 46, V 47, V 48, V 49, V 50, V 51, V 52, V 53, V 54, V 55, V 56], []⟩ ∧ ∀ i v, a.tmps[i]? = some v → V i = v := by
  obtain ⟨⟨l⟩, d⟩ := a
  obtain rfl : d = [] := hd
  obtain ⟨V, h1, h2⟩ := list57 l (by simpa using h)
  exact ⟨V, by rw [← h1], fun i v hv => h2 i v (by simpa using hv)⟩

theorem eq_np (y : Nat) (w : World) : Sem.run Try.prog (binOp BinOp.eql 74 (.pointer none) (.pointer (some ⟨y, 0, none⟩))) w = .ok (.bool false) w := by
  kernel_rfl
theorem info_rest : ∃ j, Try.prog.info? 83 = some j ∧ j.size ≠ 0 := by
  have h : (Try.prog.info? 83).map (·.size) = some 2 := by kernel_rfl
  obtain ⟨j, hj, e⟩ := Option.map_eq_some_iff.1 h
  exact ⟨j, hj, by rw [e]; decide⟩
theorem eq_rest_same (x : Nat) (w : World) : Sem.run Try.prog (binOp BinOp.eql 74 (.pointer (some ⟨x, 0, none⟩)) (.pointer (some ⟨x, 0, none⟩))) w = .ok (.bool true) w := by
  obtain ⟨j, hj, _⟩ := info_rest
  exact run_eql_ptr_same w _ Try.underlying74 hj
theorem eq_rest_other {x y : Nat} {w : World} {cs ds : Array Value} {T U : TypeId} (h : x ≠ y) (hx : w.heap[x]? = some (.cells cs T (0, 0))) (hy : w.heap[y]? = some (.cells ds U (0, 0))) : Sem.run Try.prog (binOp BinOp.eql 74 (.pointer (some ⟨x, 0, none⟩)) (.pointer (some ⟨y, 0, none⟩))) w = .ok (.bool false) w := by
  obtain ⟨j, hj, hz⟩ := info_rest
  exact run_eql_ptr_other w Try.underlying74 hj hz (fun e => h (by cases e; rfl)) hx hy
/-- SameRow's two variables, in a world in which rows may be shorter by now. -/
structure SR (G : Gr) (X : Gx) (F : Nat → Prop) (W : World) (N : Nat) (va vb : Value) (pa pb : Option Nat) (w' : World) : Prop where
  pg : PG w' G X F
  ch : Ch (X.own G.n) W w'
  b0 : w'.heap[N]? = some (.cells #[va, oP pa] 76 (0, 0))
  b1 : w'.heap[N + 1]? = some (.cells #[vb, oP pb] 76 (0, 0))
theorem SR.step {G : Gr} {X : Gx} {W : World} {N : Nat} {va vb : Value} {pa pb : Option Nat} {w' w'' : World} (h : SR G X F W N va vb pa pb w') (hp : PG w'' G X F) (hc : Ch (X.own G.n) w' w'') : SR G X F W N va vb pa pb w'' :=
  ⟨hp, h.ch.trans hc (fun _ h => .inl h), h.pg.stay hc h.b0 ne5 ne6, h.pg.stay hc h.b1 ne5 ne6⟩
/-- A whole row is answered. -/
def WhR (G : Gr) (X : Gx) (F : Nat → Prop) (W : World) (N : Nat) (va vb : Value) (pa pb : Option Nat) (l : List Nm) (nx : Option Nat) (w' : World) (e : Ending) (w'' : World) : Prop :=
  ∃ s b c p, e = .returned (.agg #[.slice s b.length c, oP p]) ∧ SR G X F W N va vb pa pb w'' ∧ Ch (X.own G.n) w' w'' ∧ BagT w'' F (.slice s b.length c) b ∧ RestV X (G.wh l nx).2 p ∧ Un.flat b = (G.wh l nx).1
theorem SR.whole {T : Nat} (hT : T < 100000000) {G : Gr} (hG : G.OK) {X : Gx} {W : World} {N : Nat} {va vb : Value} {pa pb : Option Nat} {w' : World} (h : SR G X F W N va vb pa pb w') {v : Value} {b : Bag} {nx p : Option Nat} (hb : BagT W F v b) (hW : PG W G X F) (hp : RestV X nx p) (hl : (G.wh (Un.flat b) nx).1.length ≤ T) :
    Calls Try.prog 31 #[.agg #[v, oP p]] w' fun e w'' => WhR G X F W N va vb pa pb (Un.flat b) nx w' e w'' := by
  obtain ⟨k, hk⟩ : ∃ k, ∀ s, nx = some s → X.rr s < k := by
    cases nx with
    | none => exact ⟨0, fun s e => by cases e⟩
    | some s => exact ⟨X.rr s + 1, fun q e => by cases e; omega⟩
  refine (whole_any hT hG k w' v b nx p F h.pg (hb.keep h.ch hW.tg) hp hk hl).mono ?_
  rintro e w'' ⟨v', b', p', rfl, h1, h2, h3, h4, h5⟩
  obtain ⟨s, c, rfl, _⟩ := id h1.bv
  exact ⟨s, b', c, p', rfl, h.step h4 h5, h5, h1, h2, h3⟩
theorem SR.done {G : Gr} {X : Gx} {w W w1 w2 : World} {va vb v1 v2 : Value} {pa pb p1 p2 : Option Nat} {b1 b2 : Bag} (hS1 : SR G X F W w.heap.size va vb pa pb w1) (hS2 : SR G X F W w.heap.size va vb pa pb w2) (hc2 : Ch (X.own G.n) w1 w2) (hb1 : BagT w1 F v1 b1) (hb2 : BagT w2 F v2 b2) (hN0 : F w.heap.size) (hN1 : F (w.heap.size + 1)) {w' : World}
    (e : w' = (((w2.setCell ⟨w.heap.size, 0, none⟩ v1).setCell ⟨w.heap.size, 1, none⟩ (oP p1)).setCell ⟨w.heap.size + 1, 0, none⟩ v2).setCell ⟨w.heap.size + 1, 1, none⟩ (oP p2)) :
    PG w' G X F ∧ Ch (fun k => X.own G.n k ∨ w.heap.size ≤ k) W w' ∧ w'.heap[w.heap.size]? = some (.cells #[v1, oP p1] 76 (0, 0)) ∧ w'.heap[w.heap.size + 1]? = some (.cells #[v2, oP p2] 76 (0, 0)) ∧ BagT w' F v1 b1 ∧ BagT w' F v2 b2 := by
  subst e
  have c1 : Ch (fun k => k = w.heap.size ∨ k = w.heap.size + 1) w2 ((((w2.setCell ⟨w.heap.size, 0, none⟩ v1).setCell ⟨w.heap.size, 1, none⟩ (oP p1)).setCell ⟨w.heap.size + 1, 0, none⟩ v2).setCell ⟨w.heap.size + 1, 1, none⟩ (oP p2)) :=
    ((((Ch.refl _ w2).set (a := ⟨w.heap.size, 0, none⟩) (.inl rfl) v1).set (a := ⟨w.heap.size, 1, none⟩) (.inl rfl) (oP p1)).set (a := ⟨w.heap.size + 1, 0, none⟩) (.inr rfl) v2).set (a := ⟨w.heap.size + 1, 1, none⟩) (.inr rfl) (oP p2)
  have c2 := c1.mono (O1 := F) (fun k hk => by rcases hk with rfl | rfl; exact hN0; exact hN1)
  refine ⟨hS2.pg.far c2, (hS2.ch.mono (fun k hk => .inl hk)).trans c1 (fun k hk => .inl (.inr (by omega))), ?_, ?_, (hb1.keep hc2 hS1.pg.tg).far c2, hb2.far c2⟩
  · refine (blk_other (a := ⟨w.heap.size + 1, 1, none⟩) (blk_other (a := ⟨w.heap.size + 1, 0, none⟩) (row_set hS2.b0) ?_) ?_)
    · show w.heap.size ≠ w.heap.size + 1; omega
    · show w.heap.size ≠ w.heap.size + 1; omega
  · refine row_set (v := vb) (p := oP pb) (blk_other (a := ⟨w.heap.size, 1, none⟩) (blk_other (a := ⟨w.heap.size, 0, none⟩) hS2.b1 ?_) ?_)
    · show w.heap.size + 1 ≠ w.heap.size; omega
    · show w.heap.size + 1 ≠ w.heap.size; omega
/-- A row variable takes names. -/
theorem PG.take {w : World} {G : Gr} {X : Gx} (hG : G.OK) (h : PG w G X F) {v pv : Nat} {vb : Value} {b : Bag} {x p : Option Nat} (hv : X.ps v = some pv) (hW : G.W v = ([], some v)) (hb : BagT w F vb b) (hx : RestV X x p) (hxW : ∀ y, x = some y → y ≠ v ∧ G.W y = ([], some y) ∧ X.rr y < X.rr v) {w' : World}
    (e : w' = (w.alloc (.cells #[vb, oP p] 76)).setCell ⟨pv, 0, none⟩ (.pointer (some ⟨w.heap.size, 0, none⟩))) : PG w' (G.stands v (Un.flat b) x) X F ∧ Ch (X.own G.n) w w' := by
  subst e
  have hca := al_ch w (.cells #[vb, oP p] 76)
  have ha := h.quiet hca
  obtain ⟨-, up, hm, -, -⟩ := ha.rest v pv hv
  have hc : Ch (fun k => k = pv) (w.alloc (.cells #[vb, oP p] 76)) ((w.alloc (.cells #[vb, oP p] 76)).setCell ⟨pv, 0, none⟩ (.pointer (some ⟨w.heap.size, 0, none⟩))) := Ch.setCell _ _ _ rfl
  have hO : Tg (w.alloc (.cells #[vb, oP p] 76)) (fun k => k = pv) := ha.tg.sub (fun k e => .inr ⟨v, by rw [e]; exact hv⟩)
  have hlt : pv < w.heap.size := h.lt (.inr ⟨v, hv⟩)
  refine ⟨ha.stands hG hv hW hc ?_ (g := w.heap.size) (blk_other (World.alloc_heap_new w _) ?_) (fun hf => Nat.lt_irrefl _ (h.F_lt _ hf)) ((hb.quiet hca).keep hc hO) hx hxW, (hca.mono (fun _ h => h.elim)).trans hc (fun k e => .inl (.inr ⟨v, by rw [e]; exact hv⟩))⟩
  · rw [blk_set hm]
    rfl
  · show w.heap.size ≠ pv
    omega
/-- What SameRow answers. -/
def SrP (G : Gr) (X : Gx) (F : Nat → Prop) (w : World) (S : Option Gr) (e : Ending) (w' : World) : Prop :=
  (S = none → e = .returned (.bool false)) ∧ (∀ H, S = some H → e = .returned (.bool true) ∧ ∃ Y, PG w' H Y F ∧ XE w X Y) ∧ Ch (X.own G.n) w w'
theorem SrP.ite {G : Gr} {X : Gx} {w : World} {S : Option Gr} {c : Prop} [Decidable c] {H : Gr} (hS : S = if c then some H else none) {bl : Bool} (hb : bl = true ↔ c) {w' : World} (hc : Ch (X.own G.n) w w') (hY : c → ∃ Y, PG w' H Y F ∧ XE w X Y) : SrP G X F w S (.returned (.bool bl)) w' := by
  subst hS
  refine ⟨fun h => ?_, fun K h => ?_, hc⟩
  · split at h
    · cases h
    · rename_i hn
      cases bl with
      | false => rfl
      | true => exact absurd (hb.1 rfl) hn
  · split at h
    · rename_i hn
      cases h
      exact ⟨by rw [hb.2 hn], hY hn⟩
    · cases h
theorem sameW_eq (G : Gr) (la lb : List Nm) (u : Option Nat) : G.sameW (la, u) (lb, u) = if Un.less la lb = [] ∧ Un.less lb la = [] then some G else none := if_pos rfl
theorem sameW_ns (G : Gr) (la lb : List Nm) (v : Nat) : G.sameW (la, none) (lb, some v) = if Un.less lb la = [] then some (G.stands v (Un.less la lb) none) else none := by
  unfold Un.Gr.sameW
  exact if_neg (fun e => by cases e)
theorem sameW_sn (G : Gr) (la lb : List Nm) (v : Nat) : G.sameW (la, some v) (lb, none) = if Un.less la lb = [] then some (G.stands v (Un.less lb la) none) else none := by
  unfold Un.Gr.sameW
  exact if_neg (fun e => by cases e)
theorem sameW_ss (G : Gr) (la lb : List Nm) {u v : Nat} (h : u ≠ v) : G.sameW (la, some u) (lb, some v) = some ((G.opened.stands u (Un.less lb la) (some G.m)).stands v (Un.less la lb) (some G.m)) := if_neg (fun e => h (Option.some.inj e))
theorem wh_self {w : World} {G : Gr} (hG : G.OK) {X : Gx} (h : PG w G X F) {l : List Nm} {nx p : Option Nat} (hp : RestV X nx p) {A : List Nm × Option Nat} (hA : G.wh l nx = A) : ∀ i, A.2 = some i → G.W i = ([], some i) := by
  subst hA
  intro i hi
  cases nx with
  | none => cases hi
  | some r =>
    obtain ⟨h1, h2⟩ := hp
    obtain ⟨c, hc⟩ := Option.ne_none_iff_exists'.1 h2
    exact (hG.W_lt r (h.ps_lt r c (h1.trans hc)) i hi).2
theorem RestV.isNone {X : Gx} {o : Option Nat} (h : RestV X o none) : o = none := by
  cases o with
  | none => rfl
  | some r => exact absurd rfl h.2
theorem RestV.isSome {X : Gx} {o : Option Nat} {x : Nat} (h : RestV X o (some x)) : ∃ i, o = some i ∧ X.ps i = some x := by
  cases o with
  | none => cases h
  | some r => exact ⟨r, rfl, h.1⟩
theorem apart_x {w : World} {G : Gr} {X : Gx} (h : PG w G X F) {i x k : Nat} {cs : Array Value} (hi : X.ps i = some x) (hk : w.heap[k]? = some (.cells cs 76 (0, 0))) : k ≠ x := by
  rintro rfl
  obtain ⟨cs', e⟩ := (h.rest i k hi).blk
  rw [e] at hk
  cases hk
theorem nil_flat {b : Bag} (h : Un.BagOK b) : Un.flat b = [] ↔ b.length = 0 := by
  have := Un.len_le_flat h
  constructor
  · intro e
    rw [e] at this
    simpa using this
  · intro e
    rw [List.length_eq_zero_iff.1 e]
    rfl

set_option maxRecDepth 100000 in
set_option maxHeartbeats 8000000 in
theorem SameRow_any {T : Nat} (hT : T < 100000000) {G : Gr} (hG : G.OK) {X : Gx} {w : World} {va vb : Value} {ba bb : Bag} {na nb pa pb : Option Nat} (h : PG w G X F) (ha : BagT w F va ba) (hb : BagT w F vb bb) (hpa : RestV X na pa) (hpb : RestV X nb pb) (hla : (G.wh (Un.flat ba) na).1.length ≤ T) (hlb : (G.wh (Un.flat bb) nb).1.length ≤ T) :
    Calls Try.prog 28 #[.agg #[va, oP pa], .agg #[vb, oP pb]] w fun e w' => SrP G X F w (G.sameW (G.wh (Un.flat ba) na) (G.wh (Un.flat bb) nb)) e w' := by
  obtain ⟨sa, ca, hva, _⟩ := id ha.bv
  obtain ⟨sb, cb, hvb, _⟩ := id hb.bv
  subst hva hvb
  have hch := al2_ch w (.cells #[.slice sa ba.length ca, oP pa] 76) (.cells #[.slice sb bb.length cb, oP pb] 76)
  have hB0 := al2_old w (.cells #[.slice sa ba.length ca, oP pa] 76) (.cells #[.slice sb bb.length cb, oP pb] 76)
  have hB1 := al2_new w (.cells #[.slice sa ba.length ca, oP pa] 76) (.cells #[.slice sb bb.length cb, oP pb] 76)
  have hs : (w.alloc (.cells #[.slice sa ba.length ca, oP pa] 76)).heap.size = w.heap.size + 1 := by simp
  replace h := hid h
  replace ha := hid ha
  replace hb := hid hb
  go_enter Try.func28, Try.ntmps28
  go_upto_region 1 with (fail)
  generalize (w.alloc (.cells #[.slice sa ba.length ca, oP pa] 76)).alloc (.cells #[.slice sb bb.length cb, oP pb] 76) = W at *
  have hP := hid (h.out.grow hch)
  have hA := hid (ha.out.grow hch)
  have hB := hid (hb.out.grow hch)
  have hN0 : Fg F w W w.heap.size := .inr ⟨Nat.le_refl _, (Array.getElem?_eq_some_iff.1 hB0).1⟩
  have hN1 : Fg F w W (w.heap.size + 1) := .inr ⟨Nat.le_succ _, (Array.getElem?_eq_some_iff.1 hB1).1⟩
  obtain ⟨F1, hF1⟩ : ∃ F1, F1 = Fg F w W := ⟨_, rfl⟩
  have hFF : Hid (∀ k, F k → F1 k) := fun k hk => by rw [hF1]; exact .inl hk
  rw [← hF1] at hP hA hB hN0 hN1
  have hch' := hid hch
  have hS0 : Hid (SR G X F1 W w.heap.size (.slice sa ba.length ca) (.slice sb bb.length cb) pa pb W.drew) := ⟨hP.out.quiet (Ch.drew _ _), Ch.drew _ _, hB0, hB1⟩
  have HA : Hid (∀ w', SR G X F1 W w.heap.size (.slice sa ba.length ca) (.slice sb bb.length cb) pa pb w' → Calls Try.prog 31 #[.agg #[.slice sa ba.length ca, oP pa]] w' fun e w'' => WhR G X F1 W w.heap.size (.slice sa ba.length ca) (.slice sb bb.length cb) pa pb (Un.flat ba) na w' e w'') := fun w' hw' => hw'.whole hT hG hA.out hP.out hpa hla
  have HB : Hid (∀ w', SR G X F1 W w.heap.size (.slice sa ba.length ca) (.slice sb bb.length cb) pa pb w' → Calls Try.prog 31 #[.agg #[.slice sb bb.length cb, oP pb]] w' fun e w'' => WhR G X F1 W w.heap.size (.slice sa ba.length ca) (.slice sb bb.length cb) pa pb (Un.flat bb) nb w' e w'') := fun w' hw' => hw'.whole hT hG hB.out hP.out hpb hlb
  clear hch hB0 hB1 hF1 hs
  refine Code.wp_mono (Q := Exit.then (fun a' w' => a'.tmps.size = 57 ∧ a'.defers = [] ∧ a'.tmps[2]? = some (.pointer (some ⟨w.heap.size, 0, none⟩)) ∧ a'.tmps[3]? = some (.pointer (some ⟨w.heap.size + 1, 0, none⟩)) ∧ a'.tmps[4]? = some (.bool false) ∧
    ∃ s1 b1 c1 p1 s2 b2 c2 p2, PG w' G X F1 ∧ Ch (fun k => X.own G.n k ∨ w.heap.size ≤ k) W w' ∧ w'.heap[w.heap.size]? = some (.cells #[.slice s1 b1.length c1, oP p1] 76 (0, 0)) ∧ w'.heap[w.heap.size + 1]? = some (.cells #[.slice s2 b2.length c2, oP p2] 76 (0, 0)) ∧
      BagT w' F1 (.slice s1 b1.length c1) b1 ∧ RestV X (G.wh (Un.flat ba) na).2 p1 ∧ Un.flat b1 = (G.wh (Un.flat ba) na).1 ∧ BagT w' F1 (.slice s2 b2.length c2) b2 ∧ RestV X (G.wh (Un.flat bb) nb).2 p2 ∧ Un.flat b2 = (G.wh (Un.flat bb) nb).1) (fun _ _ _ => False)) ?_ ?_
  · intro e a' W2 hq
    cases e with
    | normal =>
      obtain ⟨fs, fd, f2, f3, f4, s1, b1, c1, p1, s2, b2, c2, p2, hP2, hc2, d0, d1, hb1, hp1, hf1, hb2, hp2, hf2⟩ := hq
      obtain ⟨V, hVa, hV⟩ := fr57 fs fd
      rw [hV 2 _ f2, hV 3 _ f3, hV 4 _ f4] at hVa
      subst hVa
      have hcw := hid ((hch'.out.mono (fun _ h => h.elim)).trans hc2 (fun _ h => h))
      clear hS0 HA HB fs fd f2 f3 f4 hV hc2 hA hB
      have hn1 : (Un.flat b1).length ≤ T := by rw [hf1]; exact hla
      have hn2 : (Un.flat b2).length ≤ T := by rw [hf2]; exact hlb
      have hl1 := (hb1.small hn1).1
      have hl2 := (hb2.small hn2).1
      obtain ⟨x0, x1, -, -⟩ := row_cells d0
      obtain ⟨x2, x3, -, -⟩ := row_cells d1
      replace hP2 := hid hP2
      replace hb1 := hid hb1
      replace hb2 := hid hb2
      replace hp1 := hid hp1
      replace hp2 := hid hp2
      replace hf1 := hid hf1
      replace hf2 := hid hf2
      replace d0 := hid d0
      replace d1 := hid d1
      go_upto_region 2 with (fail)
      have hcd := hid (Ch.drew (fun _ => False) W2)
      have hS0 : W2.drew.cell? ⟨w.heap.size, 0, none⟩ = some (.slice s1 b1.length c1) ∧ W2.drew.cell? ⟨w.heap.size + 1, 0, none⟩ = some (.slice s2 b2.length c2) := ⟨x0, x2⟩
      have HL1 := lacking_any cmp_ok W2.drew (.slice s2 b2.length c2) (.slice s1 b1.length c1) b2 b1 (hb2.out.quiet hcd.out).bv (hb1.out.quiet hcd.out).bv hb2.out.ok hb1.out.ok (by omega) (by omega) (fun s hs => by have := (hb2.out.small hn2).2.1 s hs; omega) (fun x => by have := (hb1.out.small hn1).2.2 x; omega)
      refine wp_region_held_drew (S := (fun w' => w'.cell? ⟨w.heap.size, 0, none⟩ = some (.slice s1 b1.length c1) ∧ w'.cell? ⟨w.heap.size + 1, 0, none⟩ = some (.slice s2 b2.length c2))) (by kernel_rfl) (by first | trivial | ((try dsimp only); go_keep)) (fun hHeld => ?_)
      refine wpAnyH_take (i := 0) (v := ?vvv1) rfl (by kernel_rfl) (by kernel_rfl) (by kernel_rfl) (fun _ _ _ h => h) (Or.inl ⟨by rfl, ?yyv1⟩) (by assumption) ?rrv1
      case yyv1 => (intro w' hSw; (try dsimp only at hSw); go_simp; (try with_reducible rfl))
      try simp only [Act.put, List.setIfInBounds_toArray, List.set_cons_zero, List.set_cons_succ]
      refine wpAnyH_take (i := 1) (v := ?vvv2) rfl (by kernel_rfl) (by kernel_rfl) (by kernel_rfl) (fun _ _ _ h => h) (Or.inl ⟨by rfl, ?yyv2⟩) (by assumption) ?rrv2
      case yyv2 => (intro w' hSw; (try dsimp only at hSw); go_simp; (try with_reducible rfl))
      try simp only [Act.put, List.setIfInBounds_toArray, List.set_cons_zero, List.set_cons_succ]
      refine wpAnyH_take (i := 2) (v := ?vvv3) rfl (by kernel_rfl) (by kernel_rfl) (by kernel_rfl) (fun _ _ _ h => h) (Or.inl ⟨by rfl, ?yyv3⟩) (by assumption) ?rrv3
      case yyv3 => (intro w' hSw; (try dsimp only at hSw); go_simp; (try with_reducible rfl))
      try simp only [Act.put, List.setIfInBounds_toArray, List.set_cons_zero, List.set_cons_succ]
      refine wpAnyH_take (i := 3) (v := ?vvv4) rfl (by kernel_rfl) (by kernel_rfl) (by kernel_rfl) (fun _ _ _ h => h) (Or.inl ⟨by rfl, ?yyv4⟩) (by assumption) ?rrv4
      case yyv4 => (intro w' hSw; (try dsimp only at hSw); go_simp; (try with_reducible rfl))
      try simp only [Act.put, List.setIfInBounds_toArray, List.set_cons_zero, List.set_cons_succ]
      refine wpAnyH_take (i := 5) (v := ?vvv5) rfl (by kernel_rfl) (by kernel_rfl) (by kernel_rfl) (fun _ _ _ h => h) (Or.inl ⟨by rfl, ?yyv5⟩) (by assumption) ?rrv5
      case yyv5 => (intro w' hSw; (try dsimp only at hSw); go_simp; (try with_reducible rfl))
      try simp only [Act.put, List.setIfInBounds_toArray, List.set_cons_zero, List.set_cons_succ]
      refine wpAnyH_take (i := 6) (v := ?vvv6) rfl (by kernel_rfl) (by kernel_rfl) (by kernel_rfl) (fun _ _ _ h => h) (Or.inl ⟨by rfl, ?yyv6⟩) (by assumption) ?rrv6
      case yyv6 => (intro w' hSw; (try dsimp only at hSw); go_simp; (try with_reducible rfl))
      try simp only [Act.put, List.setIfInBounds_toArray, List.set_cons_zero, List.set_cons_succ]
      refine wpAnyH_take (i := 7) (v := ?vvv7) rfl (by kernel_rfl) (by kernel_rfl) (by kernel_rfl) (fun _ _ _ h => h) (Or.inl ⟨by rfl, ?yyv7⟩) (by assumption) ?rrv7
      case yyv7 => (intro w' hSw; (try dsimp only at hSw); go_simp; (try with_reducible rfl))
      try simp only [Act.put, List.setIfInBounds_toArray, List.set_cons_zero, List.set_cons_succ]
      refine wpAnyH_take (i := 8) (v := ?vvv8) rfl (by kernel_rfl) (by kernel_rfl) (by kernel_rfl) (fun _ _ _ h => h) (Or.inl ⟨by rfl, ?yyv8⟩) (by assumption) ?rrv8
      case yyv8 => (intro w' hSw; (try dsimp only at hSw); go_simp; (try with_reducible rfl))
      try simp only [Act.put, List.setIfInBounds_toArray, List.set_cons_zero, List.set_cons_succ]
      refine wpAnyH_ready (rs := [4]) (by kernel_rfl) (by simp) (AllReadyH.cons rfl (fun K hK => ?_) AllReadyH.nil)
      go_simp
      refine HL1.mono ?_
      clear HL1
      rintro e w3 ⟨v3, rfl, hF3⟩
      obtain ⟨a3, k3, hv3, _⟩ := id hF3.v
      subst hv3
      have hc3 := hid hF3.2.1
      have hS5 := And.intro (cell_ch hc3.out hS0.1 (fun h => h)) (cell_ch hc3.out hS0.2 (fun h => h))
      have hS6 := hS5
      have HL2 := lacking_any cmp_ok w3 (.slice s1 b1.length c1) (.slice s2 b2.length c2) b1 b2 ((hb1.out.quiet hcd.out).quiet hc3.out).bv ((hb2.out.quiet hcd.out).quiet hc3.out).bv hb1.out.ok hb2.out.ok (by omega) (by omega) (fun s hs => by have := (hb1.out.small hn1).2.1 s hs; omega) (fun x => by have := (hb2.out.small hn2).2.2 x; omega)
      replace hF3 := hid hF3
      dsimp only
      clear hHeld
      refine hK.out _ _ ?hs (fun hHeld => ?_)
      case hs => (first | exact hS5 | trivial | ((try dsimp only); go_keep) | ((try dsimp only); simp [*, World.cell?_alloc_some, World.cell?_setCell_far, World.cell?_setCell_other]))
      clear hK K
      try simp only [Act.put, List.setIfInBounds_toArray, List.set_cons_zero, List.set_cons_succ]
      refine wpAnyH_ready (rs := [9]) (by kernel_rfl) (by simp) (AllReadyH.cons rfl (fun K hK => ?_) AllReadyH.nil)
      go_simp
      refine HL2.mono ?_
      clear HL2
      rintro e w4 ⟨v4, rfl, hF4⟩
      obtain ⟨a4, k4, hv4, _⟩ := id hF4.v
      subst hv4
      have hc4 := hid hF4.2.1
      have hS5 := And.intro (cell_ch hc4.out hS6.1 (fun h => h)) (cell_ch hc4.out hS6.2 (fun h => h))
      have hS7 := hS5
      replace hF4 := hid hF4
      dsimp only
      clear hHeld
      refine hK.out _ _ ?hs (fun hHeld => ?_)
      case hs => (first | exact hS5 | trivial | ((try dsimp only); go_keep) | ((try dsimp only); simp [*, World.cell?_alloc_some, World.cell?_setCell_far, World.cell?_setCell_other]))
      clear hK K
      try simp only [Act.put, List.setIfInBounds_toArray, List.set_cons_zero, List.set_cons_succ]
      refine wpAnyH_ready (rs := [10]) (by kernel_rfl) (by simp) (AllReadyH.cons rfl (fun K hK => ?_) AllReadyH.nil)
      go_simp
      have hS5 := hS7
      clear hHeld
      refine hK.out _ _ ?hs (fun hHeld => ?_)
      case hs => (first | exact hS5 | trivial | ((try dsimp only); go_keep) | ((try dsimp only); simp [*, World.cell?_alloc_some, World.cell?_setCell_far, World.cell?_setCell_other]))
      clear hK K
      try simp only [Act.put, List.setIfInBounds_toArray, List.set_cons_zero, List.set_cons_succ]
      refine wpAnyH_ready (rs := [11]) (by kernel_rfl) (by simp) (AllReadyH.cons rfl (fun K hK => ?_) AllReadyH.nil)
      go_simp
      have hS5 := hS7
      clear hHeld
      refine hK.out _ _ ?hs (fun hHeld => ?_)
      case hs => (first | exact hS5 | trivial | ((try dsimp only); go_keep) | ((try dsimp only); simp [*, World.cell?_alloc_some, World.cell?_setCell_far, World.cell?_setCell_other]))
      clear hK K
      try simp only [Act.put, List.setIfInBounds_toArray, List.set_cons_zero, List.set_cons_succ]
      refine wpAnyH_done (by kernel_rfl) ?_ _
      clear hHeld
      clear hS5 hS6 hS7 x0 x1 x2 x3 hS0
      have hcW : Ch (fun _ => False) W2 w4 := (hcd.out.trans hc3.out (fun _ h => h.elim)).trans hc4.out (fun _ h => h.elim)
      have hP4 := hid (hP2.out.quiet hcW)
      have hcw4 := hid (hcw.out.trans hcW (fun _ h => h.elim))
      have d0' := hid ((hcW.same _ (Array.getElem?_eq_some_iff.1 d0.out).1 (fun h => h)).trans d0.out)
      have d1' := hid ((hcW.same _ (Array.getElem?_eq_some_iff.1 d1.out).1 (fun h => h)).trans d1.out)
      have hLA := hid ((hF3.out.tag (F := F1) (Un.lackB_ok hb2.out.ok) (fun k hk => hP2.out.F_lt k hk)).quiet hc4.out)
      have hLB := hid (hF4.out.tag (F := F1) (Un.lackB_ok hb1.out.ok) (fun k hk => Nat.lt_of_lt_of_le (hP2.out.F_lt k hk) (hcd.out.trans hc3.out (fun _ h => h.elim)).size))
      have fA := Un.lackB_flat hb2.out.ok hb1.out.ok
      have fB := Un.lackB_flat hb1.out.ok hb2.out.ok
      rw [hf1.out, hf2.out] at fA fB
      replace fA := hid fA
      replace fB := hid fB
      clear hP2 hcw d0 d1 hF3 hF4 hb1 hb2 hcd hc3 hc4 hf1 hf2 hcW hl1 hl2 hn1 hn2 hla hlb
      generalize hAA : G.wh (Un.flat ba) na = A at *
      generalize hBB : G.wh (Un.flat bb) nb = B at *
      generalize Un.lackB b2 b1 = lA at *
      generalize Un.lackB b1 b2 = lB at *
      have hWA := hid (wh_self hG h.out hpa hAA)
      have hWB := hid (wh_self hG h.out hpb hBB)
      obtain ⟨la, u⟩ := A
      obtain ⟨lb, v⟩ := B
      dsimp only at hp1 hp2 fA fB hWA hWB
      replace hAA := hid hAA
      replace hBB := hid hBB
      obtain ⟨x0, x1, -, -⟩ := row_cells d0'.out
      obtain ⟨x2, x3, -, -⟩ := row_cells d1'.out
      have eA := hid (nil_flat hLA.out.ok)
      have eB := hid (nil_flat hLB.out.ok)
      rw [fA.out] at eA
      rw [fB.out] at eB
      have heq := hid (RestV.eq hP4.out.ps_inj hp1.out hp2.out)
      have hFm := hid (hP4.out.mono hFF.out)
      cases p1 with
      | none =>
        replace x1 : w4.cell? ⟨w.heap.size, 1, none⟩ = some (.pointer none) := x1
        cases p2 with
        | none =>
          replace x3 : w4.cell? ⟨w.heap.size + 1, 1, none⟩ = some (.pointer none) := x3
          obtain rfl := heq.out.1 rfl
          by_cases h0 : lA.length = 0
          · have k0 : ((lA.length : Int) == 0) = true := by simp [h0]
            go_wp2
            go_ret
            rw [hAA.out, hBB.out]
            refine SrP.ite (sameW_eq G la lb u) ?_ hcw4.out (fun _ => ⟨X, hFm.out, XE.refl w X⟩)
            have h1 := eA.out.2 h0
            rw [eB.out]
            simp [h1]
          · have k0 : ((lA.length : Int) == 0) = false := by rw [beq_eq_false_iff_ne]; omega
            go_wp2
            go_ret
            rw [hAA.out, hBB.out]
            refine SrP.ite (sameW_eq G la lb u) ?_ hcw4.out (fun _ => ⟨X, hFm.out, XE.refl w X⟩)
            rw [eA.out]
            simp [h0]
        | some y =>
          replace x3 : w4.cell? ⟨w.heap.size + 1, 1, none⟩ = some (.pointer (some ⟨y, 0, none⟩)) := x3
          have hbe := eq_np y w4
          obtain ⟨rfl, j, rfl, hj⟩ : u = none ∧ ∃ j, v = some j ∧ X.ps j = some y := ⟨RestV.isNone hp1.out, RestV.isSome hp2.out⟩
          obtain ⟨-, up, hm, -, -⟩ := hP4.out.rest j y hj
          have HT1 := take_nil w4 (.slice a3 lA.length k3) (.pointer none) lA.length rfl
          have HT2 := take_some w4 y a4 lB.length k4 none hm
          clear hm
          by_cases h0 : lA.length = 0
          · have k0 : ((lA.length : Int) == 0) = true := by simp [h0]
            replace h0 := hid h0
            go_wp2_with (first
              | (go_at_call 38; refine HT1.mono ?_; clear HT1; rintro e w5 ⟨rfl, hw5⟩; obtain rfl := hw5.symm)
              | (go_at_call 38; refine HT2.mono ?_; clear HT2; rintro e w6 ⟨rfl, hw6⟩; replace hw6 := hid hw6))
            go_ret
            obtain ⟨q1, q2⟩ := hP4.out.take hG hj (hWB.out _ rfl) hLB.out (x := none) (p := none) rfl (fun y e => by cases e) hw6.out
            rw [hAA.out, hBB.out]
            refine SrP.ite (sameW_ns G la lb j) (bl := true) ?_ (hcw4.out.trans q2 (fun _ h => .inl h)) (fun _ => ⟨X, ?_, XE.refl w X⟩)
            · rw [eA.out]; simp [h0.out]
            · rw [← fB.out]; exact q1.mono hFF.out
          · have k0 : ((lA.length : Int) == 0) = false := by rw [beq_eq_false_iff_ne]; omega
            replace h0 := hid h0
            go_wp2_with (go_at_call 38; refine HT1.mono ?_; clear HT1; rintro e w5 ⟨rfl, hw5⟩; obtain rfl := hw5.symm)
            go_ret
            rw [hAA.out, hBB.out]
            refine SrP.ite (sameW_ns G la lb j) (bl := false) ?_ hcw4.out (fun hh => absurd (eA.out.1 hh) h0.out)
            rw [eA.out]; simp [h0.out]
      | some x =>
        replace x1 : w4.cell? ⟨w.heap.size, 1, none⟩ = some (.pointer (some ⟨x, 0, none⟩)) := x1
        obtain ⟨i, rfl, hi⟩ : ∃ i, u = some i ∧ X.ps i = some x := RestV.isSome hp1.out
        obtain ⟨-, up, hm, -, -⟩ := hP4.out.rest i x hi
        cases p2 with
        | none =>
          replace x3 : w4.cell? ⟨w.heap.size + 1, 1, none⟩ = some (.pointer none) := x3
          obtain rfl : v = none := RestV.isNone hp2.out
          have HT1 := take_some w4 x a3 lA.length k3 none hm
          have HT2 := fun w' => take_nil w' (.slice a4 lB.length k4) (.pointer none) lB.length rfl
          clear hm
          go_wp2_with (first
            | (go_at_call 38; refine HT1.mono ?_; clear HT1; rintro e w5 ⟨rfl, hw5⟩; replace hw5 := hid hw5; have HT3 := HT2 w5; clear HT2; obtain ⟨z0, z1, -, -⟩ := row_cells (blk_other (a := ⟨x, 0, none⟩) (v := .pointer (some ⟨w4.heap.size, 0, none⟩)) (blk_alloc (x := .cells #[.slice a3 lA.length k3, oP none] 76) d1'.out) (apart_x hP4.out hi d1'.out)); rw [← hw5.out] at z0 z1; replace z1 : w5.cell? ⟨w.heap.size + 1, 1, none⟩ = some (.pointer none) := z1)
            | (go_at_call 38; refine HT3.mono ?_; clear HT3; rintro e w6 ⟨rfl, hw6⟩; obtain rfl := hw6.symm))
          go_ret
          obtain ⟨q1, q2⟩ := hP4.out.take hG hi (hWA.out _ rfl) hLA.out (x := none) (p := none) rfl (fun y e => by cases e) hw5.out
          rw [hAA.out, hBB.out]
          refine SrP.ite (sameW_sn G la lb i) ?_ (hcw4.out.trans q2 (fun _ h => .inl h)) (fun _ => ⟨X, ?_, XE.refl w X⟩)
          · rw [eB.out]; simp
          · rw [← fA.out]; exact q1.mono hFF.out
        | some y =>
          replace x3 : w4.cell? ⟨w.heap.size + 1, 1, none⟩ = some (.pointer (some ⟨y, 0, none⟩)) := x3
          obtain ⟨j, rfl, hj⟩ : ∃ j, v = some j ∧ X.ps j = some y := RestV.isSome hp2.out
          by_cases hxy : x = y
          · subst hxy
            have hij := heq.out.1 rfl
            obtain rfl := Option.some.inj hij
            have hbe := eq_rest_same x w4
            clear hm hij
            by_cases h0 : lA.length = 0
            · have k0 : ((lA.length : Int) == 0) = true := by simp [h0]
              go_wp2
              go_ret
              rw [hAA.out, hBB.out]
              refine SrP.ite (sameW_eq G la lb _) ?_ hcw4.out (fun _ => ⟨X, hFm.out, XE.refl w X⟩)
              have h1 := eA.out.2 h0
              rw [eB.out]
              simp [h1]
            · have k0 : ((lA.length : Int) == 0) = false := by rw [beq_eq_false_iff_ne]; omega
              go_wp2
              go_ret
              rw [hAA.out, hBB.out]
              refine SrP.ite (sameW_eq G la lb _) ?_ hcw4.out (fun _ => ⟨X, hFm.out, XE.refl w X⟩)
              rw [eA.out]
              simp [h0]
          · obtain ⟨-, up2, hm2, -, -⟩ := hP4.out.rest j y hj
            have hbe := eq_rest_other hxy hm hm2
            have hij : i ≠ j := fun e => hxy (by rw [e, hj] at hi; exact (Option.some.inj hi).symm)
            have hca := al_ch w4 (.cells #[.pointer none, .int .i64 0] 83)
            have hPo := hid (hP4.out.opened hca (World.alloc_heap_new w4 _) (Nat.le_refl _))
            have hma := blk_alloc (x := .cells #[.pointer none, .int .i64 0] 83) hm
            have d0a := blk_alloc (x := .cells #[.pointer none, .int .i64 0] 83) d0'.out
            have d1a := hid (blk_alloc (x := .cells #[.pointer none, .int .i64 0] 83) d1'.out)
            have hLAa := hid (hLA.out.quiet hca)
            have hLBa := hid (hLB.out.quiet hca)
            have hcwa := hid (hcw4.out.trans hca (fun _ h => h.elim))
            clear hm hm2
            go_upto_region 8 with (fail)
            generalize w4.alloc (.cells #[.pointer none, .int .i64 0] 83) = w5 at *
            generalize hpn : w4.heap.size = pn at *
            replace hpn := hid hpn
            have HT1 := take_some w5 x a3 lA.length k3 (some pn) hma
            clear hma x0 x1 x2 x3 hbe hca
            obtain ⟨x0, x1, -, -⟩ := row_cells d0a
            replace x1 : w5.cell? ⟨w.heap.size, 1, none⟩ = some (.pointer (some ⟨x, 0, none⟩)) := x1
            replace HT1 : Calls Try.prog 38 #[.pointer (some ⟨x, 0, none⟩), .slice a3 lA.length k3, .pointer (some ⟨pn, 0, none⟩)] w5 _ := HT1
            replace d0a := hid d0a
            obtain ⟨hmn, hPo2⟩ := hPo.out
            have hGo := Un.Gr.opened_ok hG
            have him : i < G.m := hP4.out.ps_lt i x hi
            have hjm : j < G.m := hP4.out.ps_lt j y hj
            have hi' : (X.lay G.m pn).ps i = some x := lay_ps hmn i x hi
            have hj' : (X.lay G.m pn).ps j = some y := lay_ps hmn j y hj
            have hmv : RestV (X.lay G.m pn) (some G.m) (some pn) := ⟨by show (if G.m = G.m then some pn else X.ps G.m) = some pn; rw [if_pos rfl], by simp⟩
            have hrm : ∀ q, q < G.m → (X.lay G.m pn).rr G.m < (X.lay G.m pn).rr q := fun q hq => by
              show (if G.m = G.m then 0 else X.rr G.m + 1) < (if q = G.m then 0 else X.rr q + 1)
              rw [if_pos rfl, if_neg (by omega)]
              omega
            have hWi : G.opened.W i = ([], some i) := by rw [Un.Gr.opened_old him]; exact hWA.out _ rfl
            have hWj : G.opened.W j = ([], some j) := by rw [Un.Gr.opened_old hjm]; exact hWB.out _ rfl
            have hWj2 : (G.opened.stands i (Un.flat lA) (some G.m)).W j = ([], some j) := by
              show (if (G.opened.W j).2 = some i then _ else G.opened.W j) = _
              rw [hWj, if_neg (fun e => hij (Option.some.inj e).symm)]
            have hWm2 : (G.opened.stands i (Un.flat lA) (some G.m)).W G.m = ([], some G.m) := by
              show (if (G.opened.W G.m).2 = some i then _ else G.opened.W G.m) = _
              rw [Un.Gr.opened_new, if_neg (fun e => by have := Option.some.inj e; omega)]
            have hGs : (G.opened.stands i (Un.flat lA) (some G.m)).OK := Un.Gr.stands_ok hGo (Nat.lt_succ_of_lt him) (fun q hq => by cases hq; exact ⟨Nat.lt_succ_self _, by omega, Un.Gr.opened_new G⟩)
            have h1 := hid (fun w6 => hPo2.take hGo hi' hWi hLAa.out hmv (fun q hq => by cases hq; exact ⟨by omega, Un.Gr.opened_new G, hrm i him⟩) (w' := w6))
            replace hPo2 := hid hPo2
            replace hGo := hid hGo
            replace hmv := hid hmv
            replace hrm := hid hrm
            replace hWi := hid hWi
            replace hWj := hid hWj
            replace hWj2 := hid hWj2
            replace hWm2 := hid hWm2
            replace hGs := hid hGs
            replace hi' := hid hi'
            replace hj' := hid hj'
            clear hPo
            go_wp2_with (first
              | (go_at_call 38; refine HT1.mono ?_; clear HT1; rintro e w6 ⟨rfl, hw6⟩; obtain ⟨q1, q2⟩ := h1.out w6 hw6; obtain ⟨-, up3, hm3, -, -⟩ := q1.rest j y hj'.out; have HT2 := take_some w6 y a4 lB.length k4 (some pn) hm3; replace HT2 : Calls Try.prog 38 #[.pointer (some ⟨y, 0, none⟩), .slice a4 lB.length k4, .pointer (some ⟨pn, 0, none⟩)] w6 _ := HT2; obtain ⟨z0, z1, -, -⟩ := row_cells (hPo2.out.stay q2 d1a.out ne5 ne6); replace z1 : w6.cell? ⟨w.heap.size + 1, 1, none⟩ = some (.pointer (some ⟨y, 0, none⟩)) := z1; have h2 := hid (fun w7 => q1.take hGs.out hj'.out hWj2.out (hLBa.out.keep q2 hPo2.out.tg) hmv.out (fun q hq => by cases hq; exact ⟨by omega, hWm2.out, hrm.out j hjm⟩) (w' := w7)); clear hm3 q1 h1 hw6; replace q2 := hid q2)
              | (go_at_call 38; refine HT2.mono ?_; clear HT2; rintro e w7 ⟨rfl, hw7⟩; obtain ⟨r1, r2⟩ := h2.out w7 hw7; clear h2 hw7; replace r1 := hid r1; replace r2 := hid r2))
            go_ret
            rw [hAA.out, hBB.out]
            have hso : ∀ k, (X.lay G.m pn).own G.n k → X.own G.n k ∨ w.heap.size ≤ k := fun k hk => by
              rcases hk with ⟨q, hq, e⟩ | ⟨r, hr⟩
              · exact .inl (.inl ⟨q, hq, e⟩)
              · have hr' : (if r = G.m then some pn else X.ps r) = some k := hr
                split at hr'
                · cases hr'
                  have := hcw4.out.size
                  rw [hpn.out] at this
                  exact .inr this
                · exact .inl (.inr ⟨r, hr'⟩)
            have hcf := (hcwa.out.trans q2.out hso).trans r2.out hso
            refine ⟨fun e => ?_, fun H e => ?_, hcf⟩
            · rw [sameW_ss G la lb hij] at e
              cases e
            · rw [sameW_ss G la lb hij, ← fA.out, ← fB.out] at e
              cases e
              have := hcw4.out.size
              rw [hpn.out] at this
              exact ⟨rfl, X.lay G.m pn, r1.out.mono hFF.out, XE.lay hmn this (by have := hP4.out.mb; unfold Un.big at this; omega)⟩
    | _ => exact hq.elim
  · obtain ⟨x0, x1, y0, y1⟩ := row_cells hS0.out.b0
    obtain ⟨x2, x3, y2, y3⟩ := row_cells hS0.out.b1
    go_region_with (first
      | (go_at_call 31; refine (HA.out _ hS0.out).mono ?_; clear HA; rintro e w1 ⟨s1, b1, c1, p1, rfl, hS1, hc1, hb1, hp1, hf1⟩; obtain ⟨x0, x1, y0, y1⟩ := row_cells hS1.b0; obtain ⟨x2, x3, y2, y3⟩ := row_cells hS1.b1; have HB2 := HB.out _ hS1; clear HB hS0; replace hb1 := hid hb1; replace hp1 := hid hp1; replace hf1 := hid hf1; replace hS1 := hid hS1; replace hc1 := hid hc1)
      | (go_at_call 31; refine HB2.mono ?_; clear HB2; rintro e w2 ⟨s2, b2, c2, p2, rfl, hS2, hc2, hb2, hp2, hf2⟩; obtain ⟨x0, x1, y0, y1⟩ := row_cells hS2.b0; obtain ⟨x2, x3, y2, y3⟩ := row_cells hS2.b1; replace hb2 := hid hb2; replace hp2 := hid hp2; replace hf2 := hid hf2; replace hS2 := hid hS2; replace hc2 := hid hc2))
    all_goals
      obtain ⟨d1, d2, d3, d4, d5, d6⟩ := SR.done hS1.out hS2.out hc2.out hb1.out hb2.out hN0 hN1 (p1 := p1) (p2 := p2) rfl
      exact ⟨rfl, rfl, rfl, rfl, rfl, s1, b1, c1, p1, s2, b2, c2, p2, d1, d2, d3, d4, d5, hp1.out, hf1.out, d6, hp2.out, hf2.out⟩
end Go.Proofs.Ytcogpcalghfghaa
