/-
  The program's Write: variables and leaves.
  The program's Write: lists.
  The program's Write: pairs.
-/
import Derived.Test.YtcogpcalghfghaaVr
import Derived.Test.YtcogpcalghfghaaMVm
import Derived.Deep.RegionHeld3
set_option linter.unusedVariables false
set_option linter.unusedSimpArgs false
namespace Go.Proofs.Ytcogpcalghfghaa
open Go.RowKit
open Un (Bag Nm Gr)
variable {F : Nat → Prop}

namespace Un.Gr
/-- Numbers are told of what is not mixed up. -/
theorem numOf_map {f : Nat → Nat} {l : List Nat} {x : Nat} (h : ∀ a ∈ l, f a = f x → a = x) : numOf (l.map f) (f x) = ((numOf l x).1, (numOf l x).2.map f) := by
  unfold numOf
  by_cases hm : x ∈ l
  · have h2 : f x ∈ l.map f := List.mem_map.2 ⟨x, hm, rfl⟩
    rw [if_pos hm, if_pos h2]
    have h3 : (l.map f).idxOf (f x) = l.idxOf x := by
      clear h2
      induction l with
      | nil => cases hm
      | cons a l ih =>
        by_cases e : a = x
        · subst e; simp
        · have e2 : ¬ f a = f x := fun e3 => e (h a (by simp) e3)
          have hm' : x ∈ l := by
            rcases List.mem_cons.1 hm with e4 | e4
            · exact absurd e4.symm e
            · exact e4
          have e5 : (f a == f x) = false := by simpa using e2
          have e6 : (a == x) = false := by simpa using e
          rw [List.map_cons, List.idxOf_cons, List.idxOf_cons, e5, e6]
          simp only [cond_false]
          rw [ih (fun b hb => h b (by simp [hb])) hm']
    simp [h3]
  · have h2 : f x ∉ l.map f := fun e => by
      obtain ⟨a, ha, he⟩ := List.mem_map.1 e
      exact hm (by rw [← h a ha he]; exact ha)
    rw [if_neg hm, if_neg h2]
    simp
theorem numOf_len (l : List Nat) (x : Nat) : (numOf l x).2.length ≤ l.length + 1 := by
  unfold numOf
  split <;> simp
theorem numOf_mem {l : List Nat} {x y : Nat} (h : y ∈ (numOf l x).2) : y ∈ l ∨ y = x := by
  unfold numOf at h
  split at h
  · exact .inl h
  · simpa using h
theorem rowOf_len (N : Nms) (o : Option Nat) : (rowOf N o).2.t.length + (rowOf N o).2.r.length ≤ N.t.length + N.r.length + 1 := by
  cases o with
  | none => simp [rowOf]
  | some v =>
    have := numOf_len N.r v
    show N.t.length + (numOf N.r v).2.length ≤ _
    omega
theorem told_len (G : Gr) : ∀ (k i : Nat) (N N' : Nms) (t : Ty.P), G.told k i N = some (t, N') → N'.t.length + N'.r.length ≤ N.t.length + N.r.length + t.parts := by
  intro k
  induction k with
  | zero => intro i N N' t h; cases h
  | succ k ih =>
    intro i N N' t h
    rw [told] at h
    split at h
    · cases h
      have := numOf_len N.t (G.rep i)
      show (numOf N.t (G.rep i)).2.length + N.r.length ≤ N.t.length + N.r.length + 1
      omega
    split at h
    · cases h; simp [Ty.P.parts]
    split at h
    · cases h; simp [Ty.P.parts]
    split at h
    · cases h; simp [Ty.P.parts]
    split at h
    · obtain ⟨⟨a, M⟩, ha, e⟩ := Option.map_eq_some_iff.1 h
      cases e
      have := ih _ _ _ _ ha
      simp only [Ty.P.parts]; omega
    split at h
    · obtain ⟨⟨a, M⟩, ha, h⟩ := Option.bind_eq_some_iff.1 h
      obtain ⟨⟨b, M2⟩, hb, e⟩ := Option.map_eq_some_iff.1 h
      cases e
      have h1 := ih _ _ _ _ ha
      have h2 : M2.t.length + M2.r.length ≤ M.t.length + M.r.length + b.parts := ih _ _ _ _ hb
      simp only [Ty.P.parts]; omega
    · obtain ⟨⟨a, M⟩, ha, h⟩ := Option.bind_eq_some_iff.1 h
      obtain ⟨⟨b, M2⟩, hb, e⟩ := Option.map_eq_some_iff.1 h
      cases e
      have h1 := ih _ _ _ _ ha
      have h2 : M2.t.length + M2.r.length ≤ (rowOf M (G.whole (G.rep i)).2).2.t.length + (rowOf M (G.whole (G.rep i)).2).2.r.length + b.parts := ih _ _ _ _ hb
      have h3 := rowOf_len M (G.whole (G.rep i)).2
      simp only [Ty.P.parts]; omega
end Un.Gr

theorem ne9 : (89 : TypeId) ≠ 78 := by decide
theorem ne10 : (89 : TypeId) ≠ 83 := by decide
/-- The writer in memory. -/
structure WrM (w : World) (G : Gr) (X : Gx) (F : Nat → Prop) (wB mT mR : Nat) (N : Gr.Nms) : Prop where
  pg : PG w G X F
  bk : w.heap[wB]? = some (.cells #[.map (some mT), .map (some mR)] 89 (0, 0))
  mt : MN w mT (N.t.map fun r => X.pi (X.root r))
  mr : MN w mR (N.r.map fun v => (X.ps v).getD 0)
  ne : mT ≠ mR
  fB : F wB
  fT : F mT
  fR : F mR
  tok : ∀ r ∈ N.t, r < G.n ∧ G.rep r = r
  rok : ∀ v ∈ N.r, ∃ b, X.ps v = some b
theorem WrM.keep {w w' : World} {G : Gr} {X : Gx} {wB mT mR : Nat} {N : Gr.Nms} (h : WrM w G X F wB mT mR N) (hp : PG w' G X F) (hc : Ch (X.own G.n) w w') : WrM w' G X F wB mT mR N :=
  ⟨hp, h.pg.stay hc h.bk ne9 ne10, h.mt.keep hc (fun ho => h.pg.own_F ho h.fT), h.mr.keep hc (fun ho => h.pg.own_F ho h.fR), h.ne, h.fB, h.fT, h.fR, h.tok, h.rok⟩
theorem WrM.quiet {w w' : World} {G : Gr} {X : Gx} {wB mT mR : Nat} {N : Gr.Nms} (h : WrM w G X F wB mT mR N) (hc : Ch (fun _ => False) w w') : WrM w' G X F wB mT mR N :=
  h.keep (h.pg.quiet hc) (hc.mono (fun _ h => h.elim))
theorem WrM.grow {w W : World} {G : Gr} {X : Gx} {wB mT mR : Nat} {N : Gr.Nms} (h : WrM w G X F wB mT mR N) (hc : Ch (fun _ => False) w W) : WrM W G X (Fg F w W) wB mT mR N := by
  have h1 := h.quiet hc
  exact ⟨h.pg.grow hc, h1.bk, h1.mt, h1.mr, h1.ne, .inl h1.fB, .inl h1.fT, .inl h1.fR, h1.tok, h1.rok⟩
theorem WrM.mono {w : World} {F' : Nat → Prop} {G : Gr} {X : Gx} {wB mT mR : Nat} {N : Gr.Nms} (h : WrM w G X F' wB mT mR N) (hs : ∀ k, F k → F' k) (hB : F wB) (hT : F mT) (hR : F mR) : WrM w G X F wB mT mR N :=
  ⟨h.pg.mono hs, h.bk, h.mt, h.mr, h.ne, hB, hT, hR, h.tok, h.rok⟩
/-- Blocks of F besides the writer's were turned. -/
theorem WrM.far {w w' : World} {G : Gr} {X : Gx} {wB mT mR : Nat} {N : Gr.Nms} (h : WrM w G X F wB mT mR N) {O : Nat → Prop} (hc : Ch O w w') (hO : ∀ k, O k → F k ∧ k ≠ wB ∧ k ≠ mT ∧ k ≠ mR) : WrM w' G X F wB mT mR N :=
  ⟨h.pg.far (hc.mono (fun k hk => (hO k hk).1)), (hc.same _ (Array.getElem?_eq_some_iff.1 h.bk).1 (fun e => (hO _ e).2.1 rfl)).trans h.bk, h.mt.keep hc (fun e => (hO _ e).2.2.1 rfl), h.mr.keep hc (fun e => (hO _ e).2.2.2 rfl), h.ne, h.fB, h.fT, h.fR, h.tok, h.rok⟩
theorem WrM.not {w : World} {G : Gr} {X : Gx} {wB mT mR : Nat} {N : Gr.Nms} (h : WrM w G X F wB mT mR N) {k : Nat} {k0 n r : Int} {os az : Value} (hk : w.heap[k]? = some (tyB k0 n r os az)) : k ≠ wB ∧ k ≠ mT ∧ k ≠ mR := by
  refine ⟨fun e => ?_, fun e => ?_, fun e => ?_⟩
  · have := h.bk
    rw [← e, hk] at this
    simp at this
  · obtain ⟨es, c, this, _⟩ := h.mt
    rw [← e, hk] at this
    cases this
  · obtain ⟨es, c, this, _⟩ := h.mr
    rw [← e, hk] at this
    cases this
def ownW (X : Gx) (n mT mR : Nat) (k : Nat) : Prop := X.own n k ∨ isTR mT mR k
theorem WrM.lt {w : World} {G : Gr} {X : Gx} {wB mT mR : Nat} {N : Gr.Nms} (h : WrM w G X F wB mT mR N) {k : Nat} (hk : ownW X G.n mT mR k) : k < w.heap.size := by
  rcases hk with hk | rfl | rfl
  · exact h.pg.lt hk
  · exact h.mt.lt
  · exact h.mr.lt
/-- What Write answers. -/
def WrP (G : Gr) (X : Gx) (F : Nat → Prop) (wB mT mR : Nat) (N' : Gr.Nms) (t : Ty.P) (w : World) (e : Ending) (w' : World) : Prop :=
  ∃ os az, e = .returned (tyV t.kind t.num t.row os az) ∧ Rb w.heap.size w' t os az ∧ WrM w' G X F wB mT mR N' ∧ Ch (ownW X G.n mT mR) w w' ∧ Stay G X w w'
theorem Write_ret {Rr : Ending → World → Prop} {a : Act} {w : World} {x : Nat} {k n r : Int} {os az : Value} (hs : a.tmps[4]? = some (.pointer (some ⟨x, 0, none⟩))) (hd : a.defers = []) (hb : w.heap[x]? = some (tyB k n r os az)) (hR : Rr (.returned (tyV k n r os az)) w) : bodyPost Try.prog Try.f21 Rr .ret a w := by
  obtain ⟨h0, h1, h2, h3, h4⟩ := Bx.cells hb
  exact bodyPost_ret (v := tyV k n r os az) (by simp [results, Try.results21, go_sem, hs, h0, h1, h2, h3, h4]) hd hR
theorem kind_cell {w : World} {G : Gr} {X : Gx} (hG : G.OK) (h : PG w G X F) {i k : Nat} (hi : i < G.n) (hk : G.kind (G.rep i) = k) : w.cell? ⟨X.pi (X.root i), 0, none⟩ = some (.int .i64 (k : Nat)) := by
  obtain ⟨_, av, ov, rp, up, b, hb, _⟩ := h.node _ (h.root_lt i hi)
  rw [cellB hb, ← hk, ← h.kind_root hG hi]
  rfl

/-- What lies behind Now, and two new types: the one that is answered, the one that is made. -/
structure Wst (w W : World) (G : Gr) (X : Gx) (F F2 : Nat → Prop) (wB mT mR : Nat) (N : Gr.Nms) (k n r : Int) (os az : Value) (x5 : Nat) : Prop where
  wm : WrM W G X F2 wB mT mR N
  b4 : W.heap[w.heap.size]? = some (ty0 0)
  b5 : W.heap[x5]? = some (tyB k n r os az)
  lt : w.heap.size < x5
  ch : Ch (ownW X G.n mT mR) w W
  st : Stay G X w W
  sub : ∀ k, F k → F2 k
  f4 : F2 w.heap.size
  f5 : F2 x5
theorem Wst.start {w w1 : World} {G : Gr} {X : Gx} {wB mT mR : Nat} {N : Gr.Nms} (h : WrM w G X F wB mT mR N) (hp : PG w1 G X (Fg F w (w.alloc (ty0 0)))) (hc : Ch (X.own G.n) (w.alloc (ty0 0)) w1) (hst : Stay G X (w.alloc (ty0 0)) w1) (k : Int) : ∃ F2, Wst w (w1.alloc (tyB k 0 0 (.slice none 0 0) (.slice none 0 0))) G X F F2 wB mT mR N k 0 0 (.slice none 0 0) (.slice none 0 0) w1.heap.size := by
  have hc0 := al_ch w (ty0 0)
  have h1 := (h.grow hc0).keep hp hc
  have hc2 := al_ch w1 (tyB k 0 0 (.slice none 0 0) (.slice none 0 0))
  have hsz := hc.size
  rw [World.size_alloc] at hsz
  have b4 : w1.heap[w.heap.size]? = some (ty0 0) := (h.quiet hc0).pg.stay hc (World.alloc_heap_new w (ty0 0)) (by decide) (by decide)
  refine ⟨_, h1.grow hc2, blk_alloc b4, World.alloc_heap_new w1 _, by omega, ?_, ((h.pg.stays hc0 (fun _ _ h => h)).trans hst).trans (h1.pg.stays hc2 (fun _ _ h => h)), fun k hk => .inl (.inl hk), .inl (.inr ⟨Nat.le_refl _, by simp⟩), .inr ⟨Nat.le_refl _, by simp⟩⟩
  exact (((hc0.mono (fun _ h => h.elim)).trans hc (fun _ h => .inl h)).trans (hc2.mono (O1 := X.own G.n) (fun _ h => h.elim)) (fun _ h => .inl h)).mono (fun _ h => .inl h)
theorem Wst.x5 {w W : World} {G : Gr} {X : Gx} {F2 : Nat → Prop} {wB mT mR : Nat} {N : Gr.Nms} {k n r : Int} {os az : Value} {x5 : Nat} (h : Wst w W G X F F2 wB mT mR N k n r os az x5) : x5 < W.heap.size := (Array.getElem?_eq_some_iff.1 h.b5).1
/-- What is made is answered. -/
theorem Wst.fin {w W : World} {G : Gr} {X : Gx} {F2 : Nat → Prop} {wB mT mR : Nat} {N N' : Gr.Nms} {os az : Value} {x5 : Nat} {t : Ty.P} (h0 : WrM w G X F wB mT mR N) (h : Wst w W G X F F2 wB mT mR N' t.kind t.num t.row os az x5) (hr : Rb (w.heap.size + 1) W t os az) : WrP G X F wB mT mR N' t w (.returned (tyV t.kind t.num t.row os az)) (set5 W w.heap.size t.kind t.num t.row os az) := by
  have hc : Ch (fun k => k = w.heap.size) W (set5 W w.heap.size t.kind t.num t.row os az) := set5_ch (Ch.refl _ _) (.inl rfl)
  obtain ⟨n1, n2, n3⟩ := h.wm.not h.b4
  refine ⟨os, az, rfl, (hr.ch hc (fun k hk _ e => by omega)).le (by omega), (h.wm.far hc (fun k hk => by subst hk; exact ⟨h.f4, n1, n2, n3⟩)).mono h.sub h0.fB h0.fT h0.fR, h.ch.trans hc (fun k hk => .inr (by omega)), h.st.trans (h.wm.pg.stays hc (fun i hi e => h.wm.pg.own_F (.inl ⟨i, hi, e⟩) h.f4))⟩

/-- Nodes and the writer's maps were turned. -/
theorem Wst.turn {w W W2 : World} {G : Gr} {X : Gx} {F2 : Nat → Prop} {wB mT mR : Nat} {N N' : Gr.Nms} {k n r : Int} {os az : Value} {x5 : Nat} (h : Wst w W G X F F2 wB mT mR N k n r os az x5) (hm : WrM W2 G X F2 wB mT mR N') (hc : Ch (ownW X G.n mT mR) W W2) (hst : Stay G X W W2) : Wst w W2 G X F F2 wB mT mR N' k n r os az x5 := by
  have st : ∀ {b : Nat} {k n r : Int} {os az : Value}, W.heap[b]? = some (tyB k n r os az) → W2.heap[b]? = some (tyB k n r os az) := fun {b k n r os az} hb => by
    refine (hc.same b (Array.getElem?_eq_some_iff.1 hb).1 (fun e => ?_)).trans hb
    obtain ⟨_, n2, n3⟩ := h.wm.not hb
    rcases e with e | e | e
    · rcases h.wm.pg.tg b _ _ _ e hb with e | e <;> exact absurd e (by decide)
    · exact n2 e
    · exact n3 e
  exact ⟨hm, st h.b4, st h.b5, h.lt, h.ch.trans hc (fun _ h => .inl h), h.st.trans hst, h.sub, h.f4, h.f5⟩
/-- A cell of the type that is made was set. -/
theorem Wst.put {w W : World} {G : Gr} {X : Gx} {F2 : Nat → Prop} {wB mT mR : Nat} {N : Gr.Nms} {k n r k' n' r' : Int} {os az os' az' : Value} {x5 : Nat} (h : Wst w W G X F F2 wB mT mR N k n r os az x5) {i : Nat} {v : Value} (ho : Obj.cells (#[.int .i64 k, .int .i64 n, .int .i64 r, os, az].setIfInBounds i v) 27 (0, 0) = tyB k' n' r' os' az') : Wst w (W.setCell ⟨x5, i, none⟩ v) G X F F2 wB mT mR N k' n' r' os' az' x5 := by
  have hc : Ch (fun k => k = x5) W (W.setCell ⟨x5, i, none⟩ v) := Ch.setCell W ⟨x5, i, none⟩ v rfl
  obtain ⟨n1, n2, n3⟩ := h.wm.not h.b5
  have hl := h.lt
  refine ⟨h.wm.far hc (fun k hk => by subst hk; exact ⟨h.f5, n1, n2, n3⟩), (hc.same _ (Array.getElem?_eq_some_iff.1 h.b4).1 (fun e => by omega)).trans h.b4, ty_set h.b5 ho, h.lt, h.ch.trans hc (fun k hk => .inr (by omega)), h.st.trans (h.wm.pg.stays hc (fun i hi e => h.wm.pg.own_F (.inl ⟨i, hi, e⟩) h.f5)), h.sub, h.f4, h.f5⟩
theorem Wst.quiet {w W W2 : World} {G : Gr} {X : Gx} {F2 : Nat → Prop} {wB mT mR : Nat} {N : Gr.Nms} {k n r : Int} {os az : Value} {x5 : Nat} (h : Wst w W G X F F2 wB mT mR N k n r os az x5) (hc : Ch (fun _ => False) W W2) : Wst w W2 G X F F2 wB mT mR N k n r os az x5 :=
  h.turn (h.wm.quiet hc) (hc.mono (fun _ h => h.elim)) (h.wm.pg.stays hc (fun _ _ h => h))
theorem WrM.plainN {w : World} {G : Gr} {X : Gx} {wB mT mR : Nat} {N : Gr.Nms} (h : WrM w G X F wB mT mR N) {i : Nat} (hi : i < G.n) : Plain w (X.pi i) := by
  obtain ⟨cs, e⟩ := (h.pg.node i hi).blk
  exact ⟨cs, _, e⟩
theorem WrM.plainR {w : World} {G : Gr} {X : Gx} {wB mT mR : Nat} {N : Gr.Nms} (h : WrM w G X F wB mT mR N) {v b : Nat} (hv : X.ps v = some b) : Plain w b := by
  obtain ⟨cs, e⟩ := (h.pg.rest v b hv).blk
  exact ⟨cs, _, e⟩
/-- The number of a node. -/
theorem WrM.numT {w : World} {G : Gr} {X : Gx} {wB mT mR : Nat} {N : Gr.Nms} (hG : G.OK) (h : WrM w G X F wB mT mR N) {i : Nat} (hi : i < G.n) (hn : N.t.length < 1000000000) :
    Calls Try.prog 30 #[.map (some mT), .pointer (some ⟨X.pi (X.root i), 0, none⟩)] w fun e w' => e = .returned (.int .i64 ((Gr.numOf N.t (G.rep i)).1 : Nat)) ∧ WrM w' G X F wB mT mR ⟨(Gr.numOf N.t (G.rep i)).2, N.r⟩ ∧ Ch (ownW X G.n mT mR) w w' ∧ Stay G X w w' := by
  have hr := hG.rep_lt i hi
  have hrr := hG.rep_rep i hi
  have hroot : X.root (G.rep i) = X.root i := h.pg.root_one _ _ hr hi hrr
  have hf := Un.Gr.numOf_map (f := fun r => X.pi (X.root r)) (l := N.t) (x := G.rep i) (fun a ha e => by
    obtain ⟨a1, a2⟩ := h.tok a ha
    have e1 := h.pg.pi_inj _ _ (h.pg.root_lt a a1) (h.pg.root_lt _ hr) e
    have e2 := (h.pg.rep_root a1 hr).1 e1
    rw [a2, hrr] at e2
    exact e2)
  rw [hroot] at hf
  refine (numbered_node w mT _ h.mt (fun x hx => ?_) _ (h.plainN (h.pg.root_lt i hi)) (by rw [List.length_map]; exact hn)).mono ?_
  · obtain ⟨r, hr, rfl⟩ := List.mem_map.1 hx
    exact h.plainN (h.pg.root_lt r (h.tok r hr).1)
  · rintro e w' ⟨rfl, hm, hc⟩
    rw [hf] at hm ⊢
    have nB : wB ≠ mT := fun e => by
      obtain ⟨es, c, hb, _⟩ := h.mt
      rw [← e, h.bk] at hb
      cases hb
    refine ⟨rfl, ⟨h.pg.far (hc.mono (fun k hk => by rw [hk]; exact h.fT)), (hc.same _ (Array.getElem?_eq_some_iff.1 h.bk).1 nB).trans h.bk, hm, h.mr.keep hc (fun e => h.ne e.symm), h.ne, h.fB, h.fT, h.fR, fun r hr => ?_, h.rok⟩, hc.mono (fun k hk => .inr (.inl hk)), h.pg.stays hc (fun i hi e => h.pg.own_F (.inl ⟨i, hi, e⟩) h.fT)⟩
    rcases Un.Gr.numOf_mem hr with hr | rfl
    · exact h.tok r hr
    · exact ⟨hG.rep_lt i hi, hrr⟩
/-- The number of a row variable. -/
theorem WrM.numR {w : World} {G : Gr} {X : Gx} {wB mT mR : Nat} {N : Gr.Nms} (h : WrM w G X F wB mT mR N) {v b : Nat} (hv : X.ps v = some b) (hn : N.r.length < 1000000000) :
    Calls Try.prog 33 #[.map (some mR), .pointer (some ⟨b, 0, none⟩)] w fun e w' => e = .returned (.int .i64 ((Gr.numOf N.r v).1 : Nat)) ∧ WrM w' G X F wB mT mR ⟨N.t, (Gr.numOf N.r v).2⟩ ∧ Ch (ownW X G.n mT mR) w w' ∧ Stay G X w w' := by
  have hf := Un.Gr.numOf_map (f := fun v => (X.ps v).getD 0) (l := N.r) (x := v) (fun a ha e => by
    obtain ⟨c, hc⟩ := h.rok a ha
    have e : c = b := by simpa [hc, hv] using e
    exact h.pg.ps_inj a v b (by rw [hc, e]) hv)
  rw [hv] at hf
  simp only [Option.getD_some] at hf
  refine (numbered_rest w mR _ h.mr (fun x hx => ?_) b (h.plainR hv) (by rw [List.length_map]; exact hn)).mono ?_
  · obtain ⟨r, hr, rfl⟩ := List.mem_map.1 hx
    obtain ⟨c, hc⟩ := h.rok r hr
    rw [hc]
    exact h.plainR hc
  · rintro e w' ⟨rfl, hm, hc⟩
    rw [hf] at hm ⊢
    have nB : wB ≠ mR := fun e => by
      obtain ⟨es, c, hb, _⟩ := h.mr
      rw [← e, h.bk] at hb
      cases hb
    refine ⟨rfl, ⟨h.pg.far (hc.mono (fun k hk => by rw [hk]; exact h.fR)), (hc.same _ (Array.getElem?_eq_some_iff.1 h.bk).1 nB).trans h.bk, h.mt.keep hc h.ne, hm, h.ne, h.fB, h.fT, h.fR, h.tok, fun r hr => ?_⟩, hc.mono (fun k hk => .inr (.inr hk)), h.pg.stays hc (fun i hi e => h.pg.own_F (.inl ⟨i, hi, e⟩) h.fR)⟩
    rcases Un.Gr.numOf_mem hr with hr | rfl
    · exact h.rok r hr
    · exact ⟨b, hv⟩

set_option maxRecDepth 100000 in
set_option maxHeartbeats 4000000 in
theorem Write_leaf {w : World} {G : Gr} {X : Gx} {wB mT mR i : Nat} {N : Gr.Nms} (hG : G.OK) (h : WrM w G X F wB mT mR N) (hi : i < G.n) {t : Ty.P} (ht : t.kind ≤ 3) (ht0 : t.kind ≠ 0) (hk : G.kind (G.rep i) = t.kind) (ht1 : t.num = 0 ∧ t.row = 0) :
    Calls Try.prog 21 #[.pointer (some ⟨wB, 0, none⟩), .pointer (some ⟨X.pi i, 0, none⟩)] w fun e w' => WrP G X F wB mT mR N t w e w' := by
  have k0 : ((t.kind : Int) == 0) = false := by rw [beq_eq_false_iff_ne]; omega
  have k4 : ((t.kind : Int) == 4) = false := by rw [beq_eq_false_iff_ne]; omega
  have k5 : ((t.kind : Int) == 5) = false := by rw [beq_eq_false_iff_ne]; omega
  have k6 : ((t.kind : Int) == 6) = false := by rw [beq_eq_false_iff_ne]; omega
  have HN := Now_stay _ G X i (h.pg.grow (al_ch w (ty0 0))) hi
  replace h := hid h
  replace hk := hid hk
  replace ht1 := hid ht1
  clear ht0
  replace ht := hid ht
  go_enter Try.func21, Try.ntmps21
  go_upto_region 3 with (go_at_call 27; refine HN.mono ?_; clear HN; rintro e w1 ⟨rfl, hp1, hc1, ht9⟩; have c0 := kind_cell hG hp1 hi hk.out; obtain ⟨F2, hs⟩ := Wst.start h.out hp1 hc1 ht9 (t.kind : Nat); replace hs := hid hs; clear hp1 hc1 ht9)
  clear c0
  have c0 := kind_cell hG hs.out.wm.pg hi hk.out
  obtain ⟨⟨p0, p1, p2, p3, p4⟩, pf⟩ := ty_cells hs.out.b5
  obtain ⟨⟨q0, q1, q2, q3, q4⟩, qf⟩ := ty_cells hs.out.b4
  generalize w1.alloc (tyB (t.kind : Nat) 0 0 (.slice none 0 0) (.slice none 0 0)) = W at *
  generalize w1.heap.size = x5 at *
  go_wp2
  refine Write_ret rfl rfl (set5_blk hs.out.b4) ?_
  have hn : (t.num : Int) = 0 := by rw [ht1.out.1]; rfl
  have hr : (t.row : Int) = 0 := by rw [ht1.out.2]; rfl
  have := Wst.fin (t := t) (os := .slice none 0 0) (az := .slice none 0 0) h.out (by rw [hn, hr]; exact hs.out) (Rb.leaf ht.out nul0 nul0)
  rw [hn, hr] at this
  exact this

set_option maxRecDepth 100000 in
set_option maxHeartbeats 4000000 in
theorem Write_var {w : World} {G : Gr} {X : Gx} {wB mT mR i : Nat} {N : Gr.Nms} (hG : G.OK) (h : WrM w G X F wB mT mR N) (hi : i < G.n) (hk : G.kind (G.rep i) = 0) (hn : N.t.length < 1000000000) :
    Calls Try.prog 21 #[.pointer (some ⟨wB, 0, none⟩), .pointer (some ⟨X.pi i, 0, none⟩)] w fun e w' => WrP G X F wB mT mR ⟨(Gr.numOf N.t (G.rep i)).2, N.r⟩ (.var (Gr.numOf N.t (G.rep i)).1) w e w' := by
  have HN := Now_stay _ G X i (h.pg.grow (al_ch w (ty0 0))) hi
  replace h := hid h
  replace hk := hid hk
  go_enter Try.func21, Try.ntmps21
  go_upto_region 3 with (go_at_call 27; refine HN.mono ?_; clear HN; rintro e w1 ⟨rfl, hp1, hc1, ht9⟩; have c0 := kind_cell hG hp1 hi hk.out; obtain ⟨F2, hs⟩ := Wst.start h.out hp1 hc1 ht9 ((0 : Nat) : Int); replace hs := hid hs; clear hp1 hc1 ht9)
  clear c0
  have c0 := kind_cell hG hs.out.wm.pg hi hk.out
  obtain ⟨⟨p0, p1, p2, p3, p4⟩, pf⟩ := ty_cells hs.out.b5
  have d0 : (w1.alloc (tyB ((0 : Nat) : Int) 0 0 (.slice none 0 0) (.slice none 0 0))).cell? ⟨wB, 0, none⟩ = some (.map (some mT)) := by rw [cellB hs.out.wm.bk]; rfl
  have HT := hs.out.wm.numT hG hi hn
  generalize w1.alloc (tyB ((0 : Nat) : Int) 0 0 (.slice none 0 0) (.slice none 0 0)) = W at *
  generalize w1.heap.size = x5 at *
  have hx5 := hid hs.out.x5
  go_upto_region 17 with (go_at_call 30; refine HT.mono ?_; clear HT; rintro e w2 ⟨rfl, hm2, hc2, ht2⟩; have hs2 := hid (hs.out.turn hm2 hc2 ht2); clear hm2 hc2 ht2 p0 p1 p2 p3 p4 pf; obtain ⟨⟨p0, p1, p2, p3, p4⟩, pf⟩ := ty_cells hs2.out.b5)
  clear p0 p1 p2 p3 p4 pf c0 d0
  have hs3 := hid (hs2.out.put (i := 1) (v := .int .i64 ((Gr.numOf N.t (G.rep i)).1 : Nat)) (n' := ((Gr.numOf N.t (G.rep i)).1 : Nat)) rfl)
  obtain ⟨⟨p0, p1, p2, p3, p4⟩, pf⟩ := ty_cells hs3.out.b5
  obtain ⟨⟨q0, q1, q2, q3, q4⟩, qf⟩ := ty_cells hs3.out.b4
  generalize w2.setCell ⟨x5, 1, none⟩ (.int .i64 ((Gr.numOf N.t (G.rep i)).1 : Nat)) = W3 at *
  go_wp2
  refine Write_ret rfl rfl (set5_blk hs3.out.b4) ?_
  exact Wst.fin (t := .var (Gr.numOf N.t (G.rep i)).1) (os := .slice none 0 0) (az := .slice none 0 0) h.out hs3.out (Rb.leaf (by simp [Ty.P.kind]) nul0 nul0)
end Go.Proofs.Ytcogpcalghfghaa

namespace Go.Proofs.Ytcogpcalghfghaa
open Go.RowKit
open Un (Bag Nm Gr)
variable {F : Nat → Prop}

def WrOK (G : Gr) (X : Gx) (wB mT mR k : Nat) : Prop := ∀ {w : World} {F : Nat → Prop} {i : Nat} {N N' : Gr.Nms} {t : Ty.P}, WrM w G X F wB mT mR N → i < G.n → G.told k i N = some (t, N') → N.t.length + N.r.length + t.parts < 1000000000 →
  Calls Try.prog 21 #[.pointer (some ⟨wB, 0, none⟩), .pointer (some ⟨X.pi i, 0, none⟩)] w fun e w' => WrP G X F wB mT mR N' t w e w'
/-- The kids of a node. -/
theorem kid_cells {w : World} {G : Gr} {X : Gx} (hG : G.OK) (h : PG w G X F) {i n : Nat} (hi : i < G.n) (h0 : G.kind (G.rep i) ≠ 0) (hn : Gr.arity (G.kind (G.rep i)) = n) (h1 : 0 < n) : ∃ g o c, w.cell? ⟨X.pi (X.root i), 1, none⟩ = some (.slice (some ⟨g, o, none⟩) n c) ∧ (∀ j, j < n → w.cell? ⟨g, o + j, none⟩ = some (.pointer (some ⟨X.pi ((G.kids (G.rep i)).getD j 0), 0, none⟩)) ∧ (G.kids (G.rep i)).getD j 0 < G.n) ∧
    (∀ k, g = k → ∃ cs fr, w.heap[k]? = some (.cells cs 61 fr)) := by
  have hr := h.root_kind i hi h0
  obtain ⟨_, av, ov, rp, up, b, hb, hA, _⟩ := h.node _ (h.root_lt i hi)
  have hrl := hG.rep_lt i hi
  have hl := hG.kids_len _ hrl
  rw [hn] at hl
  obtain ⟨a, c, rfl, ha⟩ := hA.sl
  simp only [List.length_map, hr] at hb hA ha
  obtain ⟨g, o, rfl, hc⟩ := ha (by intro e; have e2 := congrArg List.length e; rw [List.length_map, hl] at e2; simp only [List.length_nil] at e2; omega)
  refine ⟨g, o, c, by rw [hr, cellB hb, hl]; rfl, fun j hj => ?_, fun k hk => hA.tb k (by rw [← hk]; rfl)⟩
  have hj' : j < (G.kids (G.rep i)).length := by omega
  have e : (G.kids (G.rep i)).getD j 0 = (G.kids (G.rep i))[j] := by simp [List.getD, hj']
  rw [e]
  exact ⟨hc j _ (by rw [List.getElem?_map, List.getElem?_eq_getElem hj']; rfl), hG.kids_lt _ hrl _ (List.getElem_mem hj')⟩
/-- A new row of types. -/
theorem TyRow.new {w : World} {n m : Nat} {xs : List Value} (hm : xs.length = m * 5) (hm2 : m ≤ 2) (hn : n ≤ w.heap.size) (h0 : 0 < m) : TyRow n (w.alloc (.cells xs.toArray 27)) (.slice (some ⟨w.heap.size, 0, none⟩) m m) m xs :=
  ⟨⟨hm, .inr ⟨w.heap.size, m, xs.toArray, rfl, Nat.zero_le _, World.alloc_heap_new w _, Nat.le_refl _, by unfold maxLen; omega, by simpa using hm, by simp [← hm]⟩⟩, fun k hk => by cases hk; exact hn⟩

set_option maxRecDepth 100000 in
set_option maxHeartbeats 4000000 in
theorem Write_list {w : World} {G : Gr} {X : Gx} {wB mT mR i k : Nat} (ih : WrOK G X wB mT mR k) {N N' : Gr.Nms} {t : Ty.P} (hG : G.OK) (h : WrM w G X F wB mT mR N) (hi : i < G.n) (hk : G.kind (G.rep i) = 4) (ht : G.told k ((G.kids (G.rep i)).getD 0 0) N = some (t, N')) (hn : N.t.length + N.r.length + t.parts < 1000000000) :
    Calls Try.prog 21 #[.pointer (some ⟨wB, 0, none⟩), .pointer (some ⟨X.pi i, 0, none⟩)] w fun e w' => WrP G X F wB mT mR N' (.list t) w e w' := by
  have HN := Now_stay _ G X i (h.pg.grow (al_ch w (ty0 0))) hi
  replace h := hid h
  replace hk := hid hk
  go_enter Try.func21, Try.ntmps21
  go_upto_region 3 with (go_at_call 27; refine HN.mono ?_; clear HN; rintro e w1 ⟨rfl, hp1, hc1, ht9⟩; have c0 := kind_cell hG hp1 hi hk.out; obtain ⟨F2, hs⟩ := Wst.start h.out hp1 hc1 ht9 ((4 : Nat) : Int); replace hs := hid hs; clear hp1 hc1 ht9)
  clear c0
  have c0 := kind_cell hG hs.out.wm.pg hi hk.out
  obtain ⟨g, o, c, c1, hcc, hgt⟩ := kid_cells hG hs.out.wm.pg hi (by rw [hk.out]; decide) (n := 1) (by rw [hk.out]; rfl) (by decide)
  obtain ⟨d0, hkn⟩ := hcc 0 (by decide)
  rw [Nat.add_zero] at d0
  have HT := ih hs.out.wm hkn ht hn
  clear hcc
  replace hgt := hid hgt
  replace ht := hid ht
  generalize w1.alloc (tyB ((4 : Nat) : Int) 0 0 (.slice none 0 0) (.slice none 0 0)) = W at *
  generalize w1.heap.size = x5 at *
  have hx5 := hid hs.out.x5
  go_upto_region 7 with (fail)
  go_upto_region 17 with (go_at_call 21; refine HT.mono ?_; clear HT; rintro e w2 ⟨os, az, rfl, hr2, hm2, hc2, ht2⟩; obtain ⟨⟨oa, on, oc, hos⟩, ⟨aa, an, ac, haz⟩⟩ := And.intro hr2.so hr2.sa; subst hos haz; have hs2 := hid (hs.out.turn hm2 hc2 ht2); replace hr2 := hid hr2; replace hc2 := hid hc2; clear hm2 ht2; have hs3 := hid (hs2.out.quiet (al_ch w2 (tyB t.kind t.num t.row (.slice oa on oc) (.slice aa an ac)))); obtain ⟨⟨p0, p1, p2, p3, p4⟩, pf⟩ := ty_cells hs3.out.b5)
  clear c0 c1 d0 p0 p1 p2 p3 p4 pf
  have hs4 := hid (hs3.out.put (i := 4) (v := .slice (some ⟨w2.heap.size, 0, none⟩) 1 1) (az' := .slice (some ⟨w2.heap.size, 0, none⟩) 1 1) rfl)
  obtain ⟨⟨p0, p1, p2, p3, p4⟩, pf⟩ := ty_cells hs4.out.b5
  obtain ⟨⟨q0, q1, q2, q3, q4⟩, qf⟩ := ty_cells hs4.out.b4
  have hw2 := hc2.out.size
  have hl := hs.out.lt
  have hx6 := hx5.out
  have cs : Ch (fun k => k = x5) (w2.alloc (tyB t.kind t.num t.row (.slice oa on oc) (.slice aa an ac))) ((w2.alloc (tyB t.kind t.num t.row (.slice oa on oc) (.slice aa an ac))).setCell ⟨x5, 4, none⟩ (.slice (some ⟨w2.heap.size, 0, none⟩) 1 1)) := Ch.setCell _ ⟨x5, 4, none⟩ _ rfl
  have ca : Hid (Ch (fun k => k = x5) w2 ((w2.alloc (tyB t.kind t.num t.row (.slice oa on oc) (.slice aa an ac))).setCell ⟨x5, 4, none⟩ (.slice (some ⟨w2.heap.size, 0, none⟩) 1 1))) := ((al_ch w2 _).mono (fun _ h => h.elim)).trans cs (fun _ h => .inl h)
  have hrow : Hid (TyRow (w.heap.size + 1) ((w2.alloc (tyB t.kind t.num t.row (.slice oa on oc) (.slice aa an ac))).setCell ⟨x5, 4, none⟩ (.slice (some ⟨w2.heap.size, 0, none⟩) 1 1)) (.slice (some ⟨w2.heap.size, 0, none⟩) 1 1) 1 (tyC t.kind t.num t.row (.slice oa on oc) (.slice aa an ac))) :=
    (TyRow.new (w := w2) (n := w.heap.size + 1) (xs := tyC t.kind t.num t.row (.slice oa on oc) (.slice aa an ac)) rfl (by decide) (by omega) (by decide)).ch cs (fun k hk e => by have hk2 : w2.heap.size = k := Option.some.inj hk; omega)
  clear cs
  have hr3 := hid (hr2.out.ch ca.out (fun k hk _ e => by omega))
  generalize (w2.alloc (tyB t.kind t.num t.row (.slice oa on oc) (.slice aa an ac))).setCell ⟨x5, 4, none⟩ (.slice (some ⟨w2.heap.size, 0, none⟩) 1 1) = W3 at *
  go_wp2
  refine Write_ret rfl rfl (set5_blk hs4.out.b4) ?_
  exact Wst.fin (t := .list t) (os := .slice none 0 0) h.out hs4.out (Rb.list nul0 (hr3.out.le (by omega)) hrow.out)
end Go.Proofs.Ytcogpcalghfghaa

namespace Go.Proofs.Ytcogpcalghfghaa
open Go.RowKit
open Un (Bag Nm Gr)
variable {F : Nat → Prop}

/-- A node's two kids, as the program reads them. -/
structure Kd (w : World) (pb g o c ka kb : Nat) : Prop where
  s : w.cell? ⟨pb, 1, none⟩ = some (.slice (some ⟨g, o, none⟩) 2 c) ∧ w.cell? ⟨g, o, none⟩ = some (.pointer (some ⟨ka, 0, none⟩)) ∧ w.cell? ⟨g, o + 1, none⟩ = some (.pointer (some ⟨kb, 0, none⟩))
  t : ∃ cs fr, w.heap[g]? = some (.cells cs 61 fr)
theorem Kd.turn {w w' : World} {G : Gr} {X : Gx} {wB mT mR : Nat} {N : Gr.Nms} {g o c ka kb i : Nat} (h : Kd w (X.pi (X.root i)) g o c ka kb) (hm : WrM w G X F wB mT mR N) (hi : i < G.n) (hc : Ch (ownW X G.n mT mR) w w') (hst : Stay G X w w') : Kd w' (X.pi (X.root i)) g o c ka kb := by
  obtain ⟨cs, fr, ht⟩ := h.t
  have hl := (Array.getElem?_eq_some_iff.1 ht).1
  have hno : ¬ ownW X G.n mT mR g := by
    rintro (e | e | e)
    · rcases hm.pg.tg g _ _ _ e ht with e | e <;> exact absurd e (by decide)
    · obtain ⟨es, c, hb, _⟩ := hm.mt
      rw [← e, ht] at hb
      cases hb
    · obtain ⟨es, c, hb, _⟩ := hm.mr
      rw [← e, ht] at hb
      cases hb
  exact ⟨⟨(hst _ (hm.pg.root_lt i hi) 1 (by decide)).trans h.s.1, (hc.cell (p := ⟨g, o, none⟩) hl hno).trans h.s.2.1, (hc.cell (p := ⟨g, o + 1, none⟩) hl hno).trans h.s.2.2⟩, ⟨cs, fr, (hc.same g hl hno).trans ht⟩⟩
theorem Kd.quiet {w w' : World} {pb g o c ka kb : Nat} (h : Kd w pb g o c ka kb) (hc : Ch (fun _ => False) w w') : Kd w' pb g o c ka kb := by
  obtain ⟨cs, fr, ht⟩ := h.t
  exact ⟨⟨cell_ch hc h.s.1 (fun h => h), cell_ch hc h.s.2.1 (fun h => h), cell_ch hc h.s.2.2 (fun h => h)⟩, ⟨cs, fr, (hc.same g (Array.getElem?_eq_some_iff.1 ht).1 (fun h => h)).trans ht⟩⟩
theorem Kd.al {w : World} {pb g o c ka kb : Nat} (h : Kd w pb g o c ka kb) (ob : Obj) : Kd (w.alloc ob) pb g o c ka kb := h.quiet (al_ch w ob)
theorem Kd.put {w : World} {G : Gr} {X : Gx} {g o c ka kb i0 x i : Nat} {v : Value} {cs : Array Value} {T : TypeId} {fr : Nat × Nat} (h : Kd w (X.pi (X.root i0)) g o c ka kb) (hx : w.heap[x]? = some (.cells cs T fr)) (hT : T ≠ 61) (hF : F x) (hp : PG w G X F) (hi : i0 < G.n) : Kd (w.setCell ⟨x, i, none⟩ v) (X.pi (X.root i0)) g o c ka kb := by
  obtain ⟨cs', fr', ht⟩ := h.t
  have h1 : g ≠ x := fun e => by
    rw [e, hx] at ht
    cases ht
    exact hT rfl
  have h2 : X.pi (X.root i0) ≠ x := fun e => hp.own_F (.inl ⟨_, hp.root_lt i0 hi, e⟩) hF
  have hc : Ch (fun k => k = x) w (w.setCell ⟨x, i, none⟩ v) := Ch.setCell w ⟨x, i, none⟩ v rfl
  exact ⟨⟨cell_ch hc h.s.1 h2, cell_ch hc h.s.2.1 h1, cell_ch hc h.s.2.2 h1⟩, ⟨cs', fr', (hc.same g (Array.getElem?_eq_some_iff.1 ht).1 h1).trans ht⟩⟩

set_option maxRecDepth 100000 in
set_option maxHeartbeats 8000000 in
theorem Write_pair {w : World} {G : Gr} {X : Gx} {wB mT mR i k : Nat} (ih : WrOK G X wB mT mR k) {N N1 N2 : Gr.Nms} {ta tb : Ty.P} (hG : G.OK) (h : WrM w G X F wB mT mR N) (hi : i < G.n) (hk : G.kind (G.rep i) = 5) (ha : G.told k ((G.kids (G.rep i)).getD 0 0) N = some (ta, N1)) (hb : G.told k ((G.kids (G.rep i)).getD 1 0) N1 = some (tb, N2)) (hn : N.t.length + N.r.length + (ta.parts + tb.parts) < 1000000000) :
    Calls Try.prog 21 #[.pointer (some ⟨wB, 0, none⟩), .pointer (some ⟨X.pi i, 0, none⟩)] w fun e w' => WrP G X F wB mT mR N2 (.pair ta tb) w e w' := by
  have HN := Now_stay _ G X i (h.pg.grow (al_ch w (ty0 0))) hi
  have hlen : Hid (N1.t.length + N1.r.length + tb.parts < 1000000000) := by
    have := Un.Gr.told_len G _ _ _ _ _ ha
    show _ < _
    omega
  replace h := hid h
  replace hk := hid hk
  go_enter Try.func21, Try.ntmps21
  go_upto_region 3 with (go_at_call 27; refine HN.mono ?_; clear HN; rintro e w1 ⟨rfl, hp1, hc1, ht9⟩; have c0 := kind_cell hG hp1 hi hk.out; obtain ⟨F2, hs⟩ := Wst.start h.out hp1 hc1 ht9 ((5 : Nat) : Int); replace hs := hid hs; clear hp1 hc1 ht9)
  clear c0
  have c0 := kind_cell hG hs.out.wm.pg hi hk.out
  obtain ⟨g, o, c, c1, hcc, hgt⟩ := kid_cells hG hs.out.wm.pg hi (by rw [hk.out]; decide) (n := 2) (by rw [hk.out]; rfl) (by decide)
  obtain ⟨d0, hkan⟩ := hcc 0 (by decide)
  obtain ⟨d1, hkbn⟩ := hcc 1 (by decide)
  rw [Nat.add_zero] at d0
  generalize (G.kids (G.rep i)).getD 0 0 = ka at *
  generalize (G.kids (G.rep i)).getD 1 0 = kb at *
  have hkd : Kd _ (X.pi (X.root i)) g o c (X.pi ka) (X.pi kb) := ⟨⟨c1, d0, d1⟩, hgt g rfl⟩
  clear hcc d0 d1 c1 hgt
  replace hkd := hid hkd
  generalize w1.alloc (tyB ((5 : Nat) : Int) 0 0 (.slice none 0 0) (.slice none 0 0)) = W0 at *
  generalize w1.heap.size = x5 at *
  have hx5 := hid hs.out.x5
  go_upto_region 9 with (fail)
  have hcd := Ch.drew (fun _ => False) W0
  have hs' := hs.out.quiet hcd
  have hkd' := hkd.out.quiet hcd
  have hxw : x5 < W0.drew.heap.size := hs'.x5
  have HT := ih hs'.wm hkan ha (by omega)
  clear hs hkd c0 hx5 hcd
  have hs := hid hs'
  have hkd := hid hkd'
  have hS0 := hkd'.s
  clear hs' hkd'
  replace hb := hid hb
  replace ha := hid ha
  refine wp_region_held_drew (S := (fun w' => w'.cell? ⟨X.pi (X.root i), 1, none⟩ = some (.slice (some ⟨g, o, none⟩) 2 c) ∧ w'.cell? ⟨g, o, none⟩ = some (.pointer (some ⟨X.pi ka, 0, none⟩)) ∧ w'.cell? ⟨g, o + 1, none⟩ = some (.pointer (some ⟨X.pi kb, 0, none⟩)))) (by kernel_rfl) (by first | trivial | ((try dsimp only); go_keep)) (fun hHeld => ?_)
  refine wpAnyH_take (i := 0) (v := ?vvu1) rfl (by kernel_rfl) (by kernel_rfl) (by kernel_rfl) (fun _ _ _ h => h) (Or.inl ⟨by rfl, ?yyu1⟩) (by assumption) ?rru1
  case yyu1 => (intro w' hSw; (try dsimp only at hSw); go_simp; (try with_reducible rfl))
  try simp only [Act.put, List.setIfInBounds_toArray, List.set_cons_zero, List.set_cons_succ]
  refine wpAnyH_take (i := 1) (v := ?vvu2) rfl (by kernel_rfl) (by kernel_rfl) (by kernel_rfl) (fun _ _ _ h => h) (Or.inl ⟨by rfl, ?yyu2⟩) (by assumption) ?rru2
  case yyu2 => (intro w' hSw; (try dsimp only at hSw); go_simp; (try with_reducible rfl))
  try simp only [Act.put, List.setIfInBounds_toArray, List.set_cons_zero, List.set_cons_succ]
  refine wpAnyH_take (i := 2) (v := ?vvu3) rfl (by kernel_rfl) (by kernel_rfl) (by kernel_rfl) (fun _ _ _ h => h) (Or.inl ⟨by rfl, ?yyu3⟩) (by assumption) ?rru3
  case yyu3 => (intro w' hSw; (try dsimp only at hSw); go_simp; (try with_reducible rfl))
  try simp only [Act.put, List.setIfInBounds_toArray, List.set_cons_zero, List.set_cons_succ]
  refine wpAnyH_take (i := 3) (v := ?vvu4) rfl (by kernel_rfl) (by kernel_rfl) (by kernel_rfl) (fun _ _ _ h => h) (Or.inl ⟨by rfl, ?yyu4⟩) (by assumption) ?rru4
  case yyu4 => (intro w' hSw; (try dsimp only at hSw); go_simp; (try with_reducible rfl))
  try simp only [Act.put, List.setIfInBounds_toArray, List.set_cons_zero, List.set_cons_succ]
  refine wpAnyH_take (i := 4) (v := ?vvu5) rfl (by kernel_rfl) (by kernel_rfl) (by kernel_rfl) (fun _ _ _ h => h) (Or.inl ⟨by rfl, ?yyu5⟩) (by assumption) ?rru5
  case yyu5 => (intro w' hSw; (try dsimp only at hSw); go_simp; (try with_reducible rfl))
  try simp only [Act.put, List.setIfInBounds_toArray, List.set_cons_zero, List.set_cons_succ]
  refine wpAnyH_take (i := 5) (v := ?vvu6) rfl (by kernel_rfl) (by kernel_rfl) (by kernel_rfl) (fun _ _ _ h => h) (Or.inl ⟨by rfl, ?yyu6⟩) (by assumption) ?rru6
  case yyu6 => (intro w' hSw; (try dsimp only at hSw); go_simp; (try with_reducible rfl))
  try simp only [Act.put, List.setIfInBounds_toArray, List.set_cons_zero, List.set_cons_succ]
  refine wpAnyH_take (i := 6) (v := ?vvu7) rfl (by kernel_rfl) (by kernel_rfl) (by kernel_rfl) (fun _ _ _ h => h) (Or.inl ⟨by rfl, ?yyu7⟩) (by assumption) ?rru7
  case yyu7 => (intro w' hSw; (try dsimp only at hSw); go_simp; (try with_reducible rfl))
  try simp only [Act.put, List.setIfInBounds_toArray, List.set_cons_zero, List.set_cons_succ]
  refine wpAnyH_take (i := 8) (v := ?vvu8) rfl (by kernel_rfl) (by kernel_rfl) (by kernel_rfl) (fun _ _ _ h => h) (Or.inl ⟨by rfl, ?yyu8⟩) (by assumption) ?rru8
  case yyu8 => (intro w' hSw; (try dsimp only at hSw); go_simp; (try with_reducible rfl))
  try simp only [Act.put, List.setIfInBounds_toArray, List.set_cons_zero, List.set_cons_succ]
  refine wpAnyH_take (i := 9) (v := ?vvu9) rfl (by kernel_rfl) (by kernel_rfl) (by kernel_rfl) (fun _ _ _ h => h) (Or.inl ⟨by rfl, ?yyu9⟩) (by assumption) ?rru9
  case yyu9 => (intro w' hSw; (try dsimp only at hSw); go_simp; (try with_reducible rfl))
  try simp only [Act.put, List.setIfInBounds_toArray, List.set_cons_zero, List.set_cons_succ]
  refine wpAnyH_take (i := 10) (v := ?vvu10) rfl (by kernel_rfl) (by kernel_rfl) (by kernel_rfl) (fun _ _ _ h => h) (Or.inl ⟨by rfl, ?yyu10⟩) (by assumption) ?rru10
  case yyu10 => (intro w' hSw; (try dsimp only at hSw); go_simp; (try with_reducible rfl))
  try simp only [Act.put, List.setIfInBounds_toArray, List.set_cons_zero, List.set_cons_succ]
  refine wpAnyH_take (i := 11) (v := ?vvu11) rfl (by kernel_rfl) (by kernel_rfl) (by kernel_rfl) (fun _ _ _ h => h) (Or.inl ⟨by rfl, ?yyu11⟩) (by assumption) ?rru11
  case yyu11 => (intro w' hSw; (try dsimp only at hSw); go_simp; (try with_reducible rfl))
  try simp only [Act.put, List.setIfInBounds_toArray, List.set_cons_zero, List.set_cons_succ]
  refine wpAnyH_take (i := 12) (v := ?vvu12) rfl (by kernel_rfl) (by kernel_rfl) (by kernel_rfl) (fun _ _ _ h => h) (Or.inl ⟨by rfl, ?yyu12⟩) (by assumption) ?rru12
  case yyu12 => (intro w' hSw; (try dsimp only at hSw); go_simp; (try with_reducible rfl))
  try simp only [Act.put, List.setIfInBounds_toArray, List.set_cons_zero, List.set_cons_succ]
  refine wpAnyH_take (i := 13) (v := ?vvu13) rfl (by kernel_rfl) (by kernel_rfl) (by kernel_rfl) (fun _ _ _ h => h) (Or.inl ⟨by rfl, ?yyu13⟩) (by assumption) ?rru13
  case yyu13 => (intro w' hSw; (try dsimp only at hSw); go_simp; (try with_reducible rfl))
  try simp only [Act.put, List.setIfInBounds_toArray, List.set_cons_zero, List.set_cons_succ]
  refine wpAnyH_take (i := 14) (v := ?vvu14) rfl (by kernel_rfl) (by kernel_rfl) (by kernel_rfl) (fun _ _ _ h => h) (Or.inl ⟨by rfl, ?yyu14⟩) (by assumption) ?rru14
  case yyu14 => (intro w' hSw; (try dsimp only at hSw); go_simp; (try with_reducible rfl))
  try simp only [Act.put, List.setIfInBounds_toArray, List.set_cons_zero, List.set_cons_succ]
  refine wpAnyH_ready (rs := [7]) (by kernel_rfl) (by simp) (AllReadyH.cons rfl (fun K hK => ?_) AllReadyH.nil)
  go_simp
  refine HT.mono ?_
  clear HT
  rintro e w2 ⟨os, az, rfl, hr2, hm2, hc2, ht2⟩
  obtain ⟨⟨oa, on, oc, hos⟩, ⟨aa, an, ac, haz⟩⟩ := And.intro hr2.so hr2.sa
  subst hos haz
  have hs2 := hid (hs.out.turn hm2 hc2 ht2)
  have hk2 := hid (hkd.out.turn hs.out.wm hi hc2 ht2)
  have hS5 := hk2.out.s
  have HT2 := ih hm2 hkbn hb.out (by have := hlen.out; omega)
  replace hr2 := hid hr2
  replace hc2 := hid hc2
  clear hm2 ht2
  dsimp only
  clear hHeld
  refine hK.out _ _ ?hs (fun hHeld => ?_)
  case hs => (first | exact hS5 | trivial | ((try dsimp only); go_keep) | ((try dsimp only); simp [*, World.cell?_alloc_some, World.cell?_setCell_far, World.cell?_setCell_other]))
  clear hK K
  try simp only [Act.put, List.setIfInBounds_toArray, List.set_cons_zero, List.set_cons_succ]
  refine wpAnyH_ready (rs := [15]) (by kernel_rfl) (by simp) (AllReadyH.cons rfl (fun K hK => ?_) AllReadyH.nil)
  go_simp
  refine HT2.mono ?_
  clear HT2
  rintro e w3 ⟨os3, az3, rfl, hr3, hm3, hc3, ht3⟩
  obtain ⟨⟨oa3, on3, oc3, hos⟩, ⟨aa3, an3, ac3, haz⟩⟩ := And.intro hr3.so hr3.sa
  subst hos haz
  have hs3 := hid (hs2.out.turn hm3 hc3 ht3)
  have hk3 := hid (hk2.out.turn hs2.out.wm hi hc3 ht3)
  have hS5 := hk3.out.s
  have hS6 := hS5
  have hr23 := hid (hr2.out.ch hc3 (fun k hk _ e => by have := hs.out.wm.lt e; omega))
  replace hr3 := hid hr3
  replace hc3 := hid hc3
  clear hm3 ht3
  have hs4 := hid (hs3.out.quiet (al_ch w3 (.cells #[.int .i64 ta.kind, .int .i64 ta.num, .int .i64 ta.row, .slice oa on oc, .slice aa an ac, .int .i64 tb.kind, .int .i64 tb.num, .int .i64 tb.row, .slice oa3 on3 oc3, .slice aa3 an3 ac3] 27)))
  have hk4 := hid (hk3.out.al (.cells #[.int .i64 ta.kind, .int .i64 ta.num, .int .i64 ta.row, .slice oa on oc, .slice aa an ac, .int .i64 tb.kind, .int .i64 tb.num, .int .i64 tb.row, .slice oa3 on3 oc3, .slice aa3 an3 ac3] 27))
  dsimp only
  clear hHeld
  refine hK.out _ _ ?hs (fun hHeld => ?_)
  case hs => (first | exact hS5 | trivial | ((try dsimp only); go_keep) | ((try dsimp only); simp [*, World.cell?_alloc_some, World.cell?_setCell_far, World.cell?_setCell_other]))
  clear hK K
  try simp only [Act.put, List.setIfInBounds_toArray, List.set_cons_zero, List.set_cons_succ]
  refine wpAnyH_ready (rs := [16]) (by kernel_rfl) (by simp) (AllReadyH.cons rfl (fun K hK => ?_) AllReadyH.nil)
  go_simp
  have hS5 := hk4.out.s
  have hS7 := hS5
  obtain ⟨⟨p0, p1, p2, p3, p4⟩, pf⟩ := ty_cells hs4.out.b5
  clear hHeld
  refine hK.out _ _ ?hs (fun hHeld => ?_)
  case hs => (first | exact hS5 | trivial | ((try dsimp only); go_keep) | ((try dsimp only); simp [*, World.cell?_alloc_some, World.cell?_setCell_far, World.cell?_setCell_other]))
  clear hK K
  try simp only [Act.put, List.setIfInBounds_toArray, List.set_cons_zero, List.set_cons_succ]
  refine wpAnyH_take (i := 17) (v := ?vvu15) rfl (by kernel_rfl) (by kernel_rfl) (by kernel_rfl) (fun _ _ _ h => h) (Or.inl ⟨by rfl, ?yyu15⟩) (by assumption) ?rru15
  case yyu15 => (intro w' hSw; (try dsimp only at hSw); go_simp; (try with_reducible rfl))
  try simp only [Act.put, List.setIfInBounds_toArray, List.set_cons_zero, List.set_cons_succ]
  refine wpAnyH_ready (rs := [18]) (by kernel_rfl) (by simp) (AllReadyH.cons rfl (fun K hK => ?_) AllReadyH.nil)
  go_simp
  have hS5 := (hk4.out.put (x := x5) (i := 4) (v := .slice (some ⟨w3.heap.size, 0, none⟩) 2 2) hs4.out.b5 (by decide) hs4.out.f5 hs4.out.wm.pg hi).s
  clear hHeld
  refine hK.out _ _ ?hs (fun hHeld => ?_)
  case hs => (first | exact hS5 | trivial | ((try dsimp only); go_keep) | ((try dsimp only); simp [*, World.cell?_alloc_some, World.cell?_setCell_far, World.cell?_setCell_other]))
  clear hK K
  try simp only [Act.put, List.setIfInBounds_toArray, List.set_cons_zero, List.set_cons_succ]
  refine wpAnyH_done (by kernel_rfl) ?_ _
  clear hHeld
  clear hS0 hS5 hS6 hS7 p0 p1 p2 p3 p4 pf
  have hs5 := hid (hs4.out.put (i := 4) (v := .slice (some ⟨w3.heap.size, 0, none⟩) 2 2) (az' := .slice (some ⟨w3.heap.size, 0, none⟩) 2 2) rfl)
  have sz2 := hc2.out.size
  have sz3 := hc3.out.size
  have hl := hs.out.lt
  have cs : Ch (fun k => k = x5) (w3.alloc (.cells (tyC ta.kind ta.num ta.row (.slice oa on oc) (.slice aa an ac) ++ tyC tb.kind tb.num tb.row (.slice oa3 on3 oc3) (.slice aa3 an3 ac3)).toArray 27)) ((w3.alloc (.cells (tyC ta.kind ta.num ta.row (.slice oa on oc) (.slice aa an ac) ++ tyC tb.kind tb.num tb.row (.slice oa3 on3 oc3) (.slice aa3 an3 ac3)).toArray 27)).setCell ⟨x5, 4, none⟩ (.slice (some ⟨w3.heap.size, 0, none⟩) 2 2)) := Ch.setCell _ ⟨x5, 4, none⟩ _ rfl
  have ca : Hid (Ch (fun k => k = x5) w3 ((w3.alloc (.cells (tyC ta.kind ta.num ta.row (.slice oa on oc) (.slice aa an ac) ++ tyC tb.kind tb.num tb.row (.slice oa3 on3 oc3) (.slice aa3 an3 ac3)).toArray 27)).setCell ⟨x5, 4, none⟩ (.slice (some ⟨w3.heap.size, 0, none⟩) 2 2))) := ((al_ch w3 _).mono (fun _ h => h.elim)).trans cs (fun _ h => .inl h)
  have hrow : Hid (TyRow (w.heap.size + 1) ((w3.alloc (.cells (tyC ta.kind ta.num ta.row (.slice oa on oc) (.slice aa an ac) ++ tyC tb.kind tb.num tb.row (.slice oa3 on3 oc3) (.slice aa3 an3 ac3)).toArray 27)).setCell ⟨x5, 4, none⟩ (.slice (some ⟨w3.heap.size, 0, none⟩) 2 2)) (.slice (some ⟨w3.heap.size, 0, none⟩) 2 2) 2 (tyC ta.kind ta.num ta.row (.slice oa on oc) (.slice aa an ac) ++ tyC tb.kind tb.num tb.row (.slice oa3 on3 oc3) (.slice aa3 an3 ac3))) :=
    (TyRow.new (w := w3) (n := w.heap.size + 1) (xs := tyC ta.kind ta.num ta.row (.slice oa on oc) (.slice aa an ac) ++ tyC tb.kind tb.num tb.row (.slice oa3 on3 oc3) (.slice aa3 an3 ac3)) rfl (by decide) (by omega) (by decide)).ch cs (fun k hk e => by have hk2 : w3.heap.size = k := Option.some.inj hk; omega)
  clear cs
  have hra := hid (hr23.out.ch ca.out (fun k hk _ e => by omega))
  have hrb := hid (hr3.out.ch ca.out (fun k hk _ e => by omega))
  obtain ⟨⟨p0, p1, p2, p3, p4⟩, pf⟩ := ty_cells hs5.out.b5
  obtain ⟨⟨q0, q1, q2, q3, q4⟩, qf⟩ := ty_cells hs5.out.b4
  have e0 : (.cells #[.int .i64 ta.kind, .int .i64 ta.num, .int .i64 ta.row, .slice oa on oc, .slice aa an ac, .int .i64 tb.kind, .int .i64 tb.num, .int .i64 tb.row, .slice oa3 on3 oc3, .slice aa3 an3 ac3] 27 : Obj) = .cells (tyC ta.kind ta.num ta.row (.slice oa on oc) (.slice aa an ac) ++ tyC tb.kind tb.num tb.row (.slice oa3 on3 oc3) (.slice aa3 an3 ac3)).toArray 27 := rfl
  rw [← e0] at ca hrow hra hrb
  clear e0
  generalize (w3.alloc (.cells #[.int .i64 ta.kind, .int .i64 ta.num, .int .i64 ta.row, .slice oa on oc, .slice aa an ac, .int .i64 tb.kind, .int .i64 tb.num, .int .i64 tb.row, .slice oa3 on3 oc3, .slice aa3 an3 ac3] 27)).setCell ⟨x5, 4, none⟩ (.slice (some ⟨w3.heap.size, 0, none⟩) 2 2) = W5 at *
  go_wp2
  refine Write_ret rfl rfl (set5_blk hs5.out.b4) ?_
  exact Wst.fin (t := .pair ta tb) (os := .slice none 0 0) h.out hs5.out (Rb.pair nul0 (hra.out.le (by omega)) (hrb.out.le (by omega)) hrow.out)
end Go.Proofs.Ytcogpcalghfghaa
