/-
  The program's Now.
  The program's rows: whole.
  Row variables: a new one, and one that stands for names from now on; take.
-/
import Derived.Test.YtcogpcalghfghaaVa
import Derived.Test.YtcogpcalghfghaaMUh
set_option linter.unusedVariables false
set_option linter.unusedSimpArgs false
namespace Go.Proofs.Ytcogpcalghfghaa
open Go.RowKit
open Un (Bag Nm Gr)

theorem cellB {w : World} {b : Nat} {cs : Array Value} {T : TypeId} (h : w.heap[b]? = some (.cells cs T (0, 0))) (i : Nat) : w.cell? ⟨b, i, none⟩ = cs[i]? := by
  unfold World.cell?
  rw [h]
  rfl
theorem frozenB {w : World} {b : Nat} {cs : Array Value} {T : TypeId} (h : w.heap[b]? = some (.cells cs T (0, 0))) (i : Nat) : w.frozen? ⟨b, i, none⟩ = false := by
  unfold World.frozen?
  rw [h]
  simp
variable {F : Nat → Prop}
theorem PG.setUp {w : World} {G : Gr} {X : Gx} (h : PG w G X F) {j k l : Nat} (hj : j < G.n) (hk : k < G.n) (hl : l < G.n) (r1 : X.root k = X.root j) (r2 : X.root l = X.root k) (m1 : X.rk k < X.rk j) (m2 : X.rk l < X.rk k) : PG (w.setCell ⟨X.pi j, 4, none⟩ (.pointer (some ⟨X.pi l, 0, none⟩))) G X F := by
  have hc : Ch (fun q => q = X.pi j) w (w.setCell ⟨X.pi j, 4, none⟩ (.pointer (some ⟨X.pi l, 0, none⟩))) := Ch.setCell w _ _ rfl
  have hO : Tg w (fun q => q = X.pi j) := h.tg.sub (fun q e => .inl ⟨j, hj, e.symm⟩)
  refine h.set hj hc ?_
  obtain ⟨hf, av, ov, rp, up, b, h1, h2, h3, h4, h5, _, _⟩ := h.node j hj
  refine ⟨hf, av, ov, rp, some l, b, ?_, h2.keep hc hO, h3.keep hc hO, h4, h5, (fun e => by cases e), fun q e => ?_⟩
  · rw [blk_set h1]
    rfl
  · cases e
    exact ⟨hl, r2.trans r1, by omega⟩

/-- Of no node anything but what it has become was turned. -/
def Stay (G : Gr) (X : Gx) (w w' : World) : Prop := ∀ i, i < G.n → ∀ j, j < 4 → w'.cell? ⟨X.pi i, j, none⟩ = w.cell? ⟨X.pi i, j, none⟩
theorem Stay.set {w w' : World} {G : Gr} {X : Gx} (h : Stay G X w w') (k : Nat) (v : Value) : Stay G X w (w'.setCell ⟨X.pi k, 4, none⟩ v) := fun i hi j hj =>
  (World.cell?_setCell_other _ _ _ _ (fun e => by simp only [Addr.mk.injEq] at e; omega)).trans (h i hi j hj)
theorem Stay.trans {w w1 w2 : World} {G : Gr} {X : Gx} (h : Stay G X w w1) (h' : Stay G X w1 w2) : Stay G X w w2 := fun i hi j hj => (h' i hi j hj).trans (h i hi j hj)
theorem PG.stays {w w' : World} {G : Gr} {X : Gx} (h : PG w G X F) {O : Nat → Prop} (hc : Ch O w w') (hO : ∀ i, i < G.n → ¬ O (X.pi i)) : Stay G X w w' := fun i hi j _ =>
  hc.cell (p := ⟨X.pi i, j, none⟩) (h.lt (.inl ⟨i, hi, rfl⟩)) (hO i hi)
set_option maxRecDepth 100000 in
set_option maxHeartbeats 4000000 in
theorem Now_stay (w : World) (G : Gr) (X : Gx) (i : Nat) (h : PG w G X F) (hi : i < G.n) :
    Calls Try.prog 27 #[.pointer (some ⟨X.pi i, 0, none⟩)] w fun e w' => e = .returned (.pointer (some ⟨X.pi (X.root i), 0, none⟩)) ∧ PG w' G X F ∧ Ch (X.own G.n) w w' ∧ Stay G X w w' := by
  replace h := hid h
  go_enter Try.func27, Try.ntmps27
  go_wp2
  go_loopg [0] (X.rk i + 1) (fun q v0 wr => ∃ j : Nat, v0 = .pointer (some ⟨X.pi j, 0, none⟩) ∧ j < G.n ∧ q = X.rk j + 1 ∧ Hid (X.root j = X.root i) ∧ Hid (PG wr G X F) ∧ Hid (Ch (X.own G.n) w wr) ∧ Hid (Stay G X w wr))
  case atStart => exact ⟨i, rfl, hi, rfl, rfl, h, Ch.refl _ _, fun _ _ _ _ => rfl⟩
  case round =>
    clear h
    obtain ⟨j, rfl, hj, rfl, hr, hP, hc, hst⟩ := hrel
    obtain ⟨-, av, ov, rp, up, b, hb, -, -, -, -, hu0, hu1⟩ := hP.out.node j hj
    have c4 : wr.cell? ⟨X.pi j, 4, none⟩ = some (oP (up.map X.pi)) := by rw [cellB hb]; rfl
    have f4 := frozenB hb 4
    replace hb := hid hb
    replace hu0 := hid hu0
    replace hu1 := hid hu1
    cases up with
    | none =>
      simp only [Option.map_none, oP_none] at c4
      go_wp2
      go_ret
      rw [← hr.out, hu0.out (by trivial)]
      exact ⟨rfl, hP.out, hc.out, hst.out⟩
    | some k =>
      simp only [Option.map_some, oP_some] at c4
      obtain ⟨hk, k1, k2⟩ := hu1.out k rfl
      obtain ⟨-, av2, ov2, rp2, up2, b2, hb2, -, -, -, -, hv0, hv1⟩ := hP.out.node k hk
      have d4 : wr.cell? ⟨X.pi k, 4, none⟩ = some (oP (up2.map X.pi)) := by rw [cellB hb2]; rfl
      replace hb2 := hid hb2
      replace hv0 := hid hv0
      replace hv1 := hid hv1
      replace k1 := hid k1
      cases up2 with
      | none =>
        simp only [Option.map_none, oP_none] at d4
        go_wp2
        go_roundg (X.rk k + 1)
        case measure => omega
        case rel => exact ⟨k, rfl, hk, rfl, hid (k1.out.trans hr.out), hP, hc, hst⟩
      | some l =>
        simp only [Option.map_some, oP_some] at d4
        obtain ⟨hl, l1, l2⟩ := hv1.out l rfl
        have hS := hid (hP.out.setUp hj hk hl k1.out l1 k2 l2)
        have hc2 := hid (hc.out.set (a := ⟨X.pi j, 4, none⟩) (.inl ⟨j, hj, rfl⟩) (.pointer (some ⟨X.pi l, 0, none⟩)))
        have hst2 := hid (hst.out.set j (.pointer (some ⟨X.pi l, 0, none⟩)))
        replace l1 := hid l1
        go_wp2
        go_roundg (X.rk l + 1)
        case measure => omega
        case rel => exact ⟨l, rfl, hl, rfl, hid (l1.out.trans (k1.out.trans hr.out)), hS, hc2, hst2⟩
theorem Now_any (w : World) (G : Gr) (X : Gx) (i : Nat) (h : PG w G X F) (hi : i < G.n) :
    Calls Try.prog 27 #[.pointer (some ⟨X.pi i, 0, none⟩)] w fun e w' => e = .returned (.pointer (some ⟨X.pi (X.root i), 0, none⟩)) ∧ PG w' G X F ∧ Ch (X.own G.n) w w' :=
  (Now_stay w G X i h hi).mono (fun _ _ h => ⟨h.1, h.2.1, h.2.2.1⟩)
end Go.Proofs.Ytcogpcalghfghaa

namespace Go.Proofs.Ytcogpcalghfghaa
open Go.RowKit
open Un (Bag Nm Gr)

namespace Un
theorem len_le_flat : ∀ {b : Bag}, BagOK b → b.length ≤ (flat b).length := by
  intro b
  induction b with
  | nil => intro _; exact Nat.zero_le _
  | cons s b ih =>
    intro h
    have h1 := h.2 s (by simp)
    have h2 := ih ⟨(List.pairwise_cons.1 h.1).2, fun t ht => h.2 t (by simp [ht])⟩
    show b.length + 1 ≤ (List.replicate s.2 s.1 ++ flat b).length
    rw [List.length_append, List.length_replicate]
    omega
theorem times_le_flat {b : Bag} (hb : BagOK b) (x : Nm) : times b x ≤ (flat b).length := by
  rcases times_or hb x with ⟨t, h1, h2, _⟩ | ⟨h1, _⟩
  · rw [h2]; exact mem_le_flat h1
  · omega
end Un
variable {F : Nat → Prop}
theorem BagT.small {w : World} {v : Value} {b : Bag} (h : BagT w F v b) {T : Nat} (hT : (Un.flat b).length ≤ T) : b.length ≤ T ∧ (∀ s ∈ b, s.2 ≤ T) ∧ ∀ x, Un.times b x ≤ T :=
  ⟨Nat.le_trans (Un.len_le_flat h.ok) hT, fun s hs => Nat.le_trans (Un.mem_le_flat hs) hT, fun x => Nat.le_trans (Un.times_le_flat h.ok x) hT⟩
/-- A row variable that stands for another one has the greater rank. -/
theorem PG.rank {w : World} {G : Gr} {X : Gx} (h : PG w G X F) : ∀ (k r b v : Nat), X.rr r < k → X.ps r = some b → (G.W r).2 = some v → X.rr v ≤ X.rr r := by
  intro k
  induction k with
  | zero => intro r b v h0; omega
  | succ k ih =>
    intro r b v h0 hr hv
    obtain ⟨_, up, _, h2, h3⟩ := h.rest r b hr
    cases up with
    | none =>
      rw [h2 rfl] at hv
      cases hv
      exact Nat.le_refl _
    | some g =>
      obtain ⟨_, _, bg, nx, p, _, _, h6, h7, h8⟩ := h3 g rfl
      rw [h8] at hv
      cases nx with
      | none => cases hv
      | some s =>
        have h9 := h7 s rfl
        have h10 : X.ps s ≠ none := by
          obtain ⟨e1, e2⟩ := h6
          rw [e1]; exact e2
        obtain ⟨c, hc⟩ := Option.ne_none_iff_exists'.1 h10
        have := ih s c v (by omega) hc hv
        omega
/-- The way from a row variable is short from now on. -/
theorem PG.short {w w' : World} {G : Gr} {X : Gx} (hG : G.OK) (h : PG w G X F) {r pb g' : Nat} {v : Value} {b : Bag} {p : Option Nat} (hr : X.ps r = some pb)
    (hc : Ch (fun k => k = pb) w w') (hn : w'.heap[pb]? = some (.cells #[oP (some g'), .int .i64 (X.rm r : Nat)] 83 (0, 0))) (hg : w'.heap[g']? = some (.cells #[v, oP p] 76 (0, 0))) (hgF : ¬ F g') (hv : BagT w' F v b) (hp : RestV X (G.W r).2 p) (hf : Un.flat b = (G.W r).1) (hk : ∀ s, (G.W r).2 = some s → X.rr s < X.rr r) : PG w' G X F := by
  refine h.setR hr hc ⟨(h.rest r pb hr).1, some g', hn, (fun e => by cases e), fun q hq => ?_⟩
  cases hq
  refine ⟨hgF, v, b, (G.W r).2, p, hg, hv, hp, hk, ?_⟩
  have hlt := h.ps_lt r pb hr
  have hl := hG.W_lt r hlt
  rw [hf]
  cases hw : (G.W r).2 with
  | none =>
    show G.W r = ((G.W r).1, none)
    rw [← hw]
  | some s =>
    have h9 := (hl s hw).2
    show G.W r = (Un.joinB (G.W r).1 (G.W s).1, (G.W s).2)
    rw [h9]
    show G.W r = ((G.W r).1, some s)
    rw [← hw]
theorem PG.rank_wh {w : World} {G : Gr} {X : Gx} (h : PG w G X F) {r : Nat} {nx p : Option Nat} {l : List Nm} (h6 : RestV X nx p) (h7 : ∀ s, nx = some s → X.rr s < X.rr r) (h8 : G.W r = G.wh l nx) : ∀ s, (G.W r).2 = some s → X.rr s < X.rr r := by
  intro s hs
  rw [h8] at hs
  cases nx with
  | none => cases hs
  | some s0 =>
    have h9 := h7 s0 rfl
    have h10 : X.ps s0 ≠ none := by
      obtain ⟨e1, e2⟩ := h6
      rw [e1]; exact e2
    obtain ⟨c, hc⟩ := Option.ne_none_iff_exists'.1 h10
    have := h.rank _ s0 c s (Nat.lt_succ_self _) hc hs
    omega
/-- Blocks of row variables alone. -/
def Gx.rows (X : Gx) (k : Nat) : Prop := ∃ r, X.ps r = some k
theorem Gx.rows_own {X : Gx} {n k : Nat} (h : X.rows k) : X.own n k := .inr h
/-- What whole answers. -/
def WhW (G : Gr) (X : Gx) (F : Nat → Prop) (w : World) (l : List Nm) (nx : Option Nat) (e : Ending) (w' : World) : Prop :=
  ∃ v' b' p', e = .returned (.agg #[v', oP p']) ∧ BagT w' F v' b' ∧ RestV X (G.wh l nx).2 p' ∧ Un.flat b' = (G.wh l nx).1 ∧ PG w' G X F ∧ Ch X.rows w w'

theorem Wh_ret {Rr : Ending → World → Prop} {a : Act} {w : World} {x : Nat} {v p : Value} (hs : a.tmps[2]? = some (.pointer (some ⟨x, 0, none⟩))) (hd : a.defers = []) (hb : w.heap[x]? = some (.cells #[v, p] 76 (0, 0))) (hR : Rr (.returned (.agg #[v, p])) w) : bodyPost Try.prog Try.f31 Rr .ret a w := by
  have h0 : w.cell? ⟨x, 0, none⟩ = some v := by rw [cellB hb]; rfl
  have h1 : w.cell? ⟨x, 1, none⟩ = some p := by rw [cellB hb]; rfl
  exact bodyPost_ret (v := .agg #[v, p]) (by simp [results, Try.results31, go_sem, hs, h0, h1]) hd hR
theorem al2_new (w : World) (x y : Obj) : ((w.alloc x).alloc y).heap[w.heap.size + 1]? = some y := by
  have := World.alloc_heap_new (w.alloc x) y
  rwa [World.size_alloc] at this
theorem al2_old (w : World) (x y : Obj) : ((w.alloc x).alloc y).heap[w.heap.size]? = some x := blk_alloc (World.alloc_heap_new w x)
theorem al2_ch (w : World) (x y : Obj) : Ch (fun _ => False) w ((w.alloc x).alloc y) := (al_ch w x).trans (al_ch _ y) (fun _ h => h.elim)
/-- The two variables of whole: the row, and what is answered. -/
structure Wf (w : World) (v p : Value) (N : Nat) (W : World) : Prop where
  ch : Ch (fun _ => False) w W
  b0 : W.heap[N]? = some (.cells #[v, p] 76 (0, 0))
  b1 : W.heap[N + 1]? = some (.cells #[.slice none 0 0, .pointer none] 76 (0, 0))
  le : w.heap.size ≤ N
theorem Wf.start (w : World) (v p : Value) : Wf w v p w.heap.size ((w.alloc (.cells #[v, p] 76)).alloc (.cells #[.slice none 0 0, .pointer none] 76)) :=
  ⟨al2_ch _ _ _, al2_old _ _ _, al2_new _ _ _, Nat.le_refl _⟩
theorem row_cells {w : World} {b : Nat} {v p : Value} (h : w.heap[b]? = some (.cells #[v, p] 76 (0, 0))) : w.cell? ⟨b, 0, none⟩ = some v ∧ w.cell? ⟨b, 1, none⟩ = some p ∧ w.frozen? ⟨b, 0, none⟩ = false ∧ w.frozen? ⟨b, 1, none⟩ = false :=
  ⟨by rw [cellB h]; rfl, by rw [cellB h]; rfl, frozenB h 0, frozenB h 1⟩
theorem row_set {w : World} {b : Nat} {v p v' p' : Value} (h : w.heap[b]? = some (.cells #[v, p] 76 (0, 0))) : ((w.setCell ⟨b, 0, none⟩ v').setCell ⟨b, 1, none⟩ p').heap[b]? = some (.cells #[v', p'] 76 (0, 0)) := by
  rw [blk_set (blk_set h)]
  rfl
theorem row_set_ch {w W : World} {O : Nat → Prop} (h : Ch O w W) {b : Nat} (hb : w.heap.size ≤ b) (v' p' : Value) : Ch O w ((W.setCell ⟨b, 0, none⟩ v').setCell ⟨b, 1, none⟩ p') := by
  refine (h.trans (O1 := fun k => k = b) (Ch.setCell W _ _ rfl) (fun i e => .inr (by omega))).trans (O1 := fun k => k = b) (Ch.setCell _ _ _ rfl) (fun i e => .inr (by omega))
def WhWOK (T : Nat) (G : Gr) (X : Gx) (k : Nat) : Prop := ∀ (w : World) (v : Value) (b : Bag) (nx p : Option Nat) (F : Nat → Prop), PG w G X F → BagT w F v b → RestV X nx p → (∀ s, nx = some s → X.rr s < k) → (G.wh (Un.flat b) nx).1.length ≤ T →
    Calls Try.prog 31 #[.agg #[v, oP p]] w fun e w' => WhW G X F w (Un.flat b) nx e w'
set_option maxRecDepth 100000 in
set_option maxHeartbeats 8000000 in
theorem whole_none {G : Gr} {X : Gx} {w : World} {v : Value} {b : Bag} (h : PG w G X F) (hb : BagT w F v b) :
    Calls Try.prog 31 #[.agg #[v, .pointer none]] w fun e w' => WhW G X F w (Un.flat b) none e w' := by
  obtain ⟨a, c, hv, _⟩ := hb.bv
  subst hv
  replace h := hid h
  replace hb := hid hb
  go_enter Try.func31, Try.ntmps31
  go_wp2
  refine Wh_ret rfl rfl (al2_new _ _ _) ?_
  have hc := al2_ch w (.cells #[.slice a b.length c, .pointer none] 76) (.cells #[.slice a b.length c, .pointer none] 76)
  exact ⟨_, b, none, rfl, hb.out.quiet hc, rfl, rfl, h.out.quiet hc, hc.mono (fun _ h => h.elim)⟩
theorem whole_self {G : Gr} {X : Gx} {w : World} {v : Value} {b : Bag} {r pb : Nat} (h : PG w G X F) (hb : BagT w F v b) (hr : X.ps r = some pb) (hm : w.heap[pb]? = some (.cells #[.pointer none, .int .i64 (X.rm r : Nat)] 83 (0, 0))) (hW : G.W r = ([], some r)) :
    Calls Try.prog 31 #[.agg #[v, .pointer (some ⟨pb, 0, none⟩)]] w fun e w' => WhW G X F w (Un.flat b) (some r) e w' := by
  obtain ⟨a, c, hv, _⟩ := hb.bv
  subst hv
  have c0 : w.cell? ⟨pb, 0, none⟩ = some (.pointer none) := by rw [cellB hm]; rfl
  replace h := hid h
  replace hb := hid hb
  replace hm := hid hm
  have hW0 := Wf.start w (.slice a b.length c) (.pointer (some ⟨pb, 0, none⟩))
  go_enter Try.func31, Try.ntmps31
  go_upto_region 1 with (fail)
  have hs : (w.alloc (.cells #[.slice a b.length c, .pointer (some ⟨pb, 0, none⟩)] 76)).heap.size = w.heap.size + 1 := by simp
  generalize (w.alloc (.cells #[.slice a b.length c, .pointer (some ⟨pb, 0, none⟩)] 76)).alloc (.cells #[.slice none 0 0, .pointer none] 76) = W at *
  obtain ⟨x0, x1, -, -⟩ := row_cells hW0.b0
  obtain ⟨y2, y3, y0, y1⟩ := row_cells hW0.b1
  have z0 := cell_ch hW0.ch c0 (fun h => h)
  replace hW0 := hid hW0
  clear c0
  go_wp2
  refine Wh_ret rfl rfl (row_set hW0.out.b1) ?_
  have hc := row_set_ch hW0.out.ch (b := w.heap.size + 1) (by omega) (.slice a b.length c) (.pointer (some ⟨pb, 0, none⟩))
  refine ⟨_, b, some pb, rfl, hb.out.quiet hc, ?_, ?_, h.out.quiet hc, hc.mono (fun _ h => h.elim)⟩
  · show RestV X (G.W r).2 (some pb)
    rw [hW]
    exact ⟨hr, by simp⟩
  · show Un.flat b = Un.joinB (Un.flat b) (G.W r).1
    rw [hW]
    rfl
theorem cell_two {w : World} {x y i : Nat} {u a b : Value} (h : w.cell? ⟨x, i, none⟩ = some u) (hxy : x ≠ y) : ((w.setCell ⟨y, 0, none⟩ a).setCell ⟨y, 1, none⟩ b).cell? ⟨x, i, none⟩ = some u := by
  have h1 := World.block_lt_of_cell? w _ h
  refine ((Ch.setCell (O := fun k => k = y) (w.setCell ⟨y, 0, none⟩ a) ⟨y, 1, none⟩ b rfl).cell (p := ⟨x, i, none⟩) (by have h2 := (Ch.setCell (O := fun k => k = y) w ⟨y, 0, none⟩ a rfl).size; show x < (w.setCell ⟨y, 0, none⟩ a).heap.size; have h3 : x < w.heap.size := h1; omega) hxy).trans ?_
  exact ((Ch.setCell (O := fun k => k = y) w ⟨y, 0, none⟩ a rfl).cell (p := ⟨x, i, none⟩) h1 hxy).trans h
set_option maxRecDepth 100000 in
set_option maxHeartbeats 8000000 in
theorem whole_more {T : Nat} (hT : T < 100000000) {G : Gr} (hG : G.OK) {X : Gx} {k : Nat} (ih : WhWOK T G X k) {w : World} {v : Value} {b : Bag} {r pb g : Nat} {vg : Value} {bg : Bag} {nx p : Option Nat} (h : PG w G X F) (hb : BagT w F v b) (hr : X.ps r = some pb) (hm : w.heap[pb]? = some (.cells #[.pointer (some ⟨g, 0, none⟩), .int .i64 (X.rm r : Nat)] 83 (0, 0)))
    (hg : w.heap[g]? = some (.cells #[vg, oP p] 76 (0, 0))) (hbg : BagT w F vg bg) (hp : RestV X nx p) (hk : ∀ s, nx = some s → X.rr s < k) (hk2 : ∀ s, nx = some s → X.rr s < X.rr r) (hW : G.W r = G.wh (Un.flat bg) nx) (hl : (G.wh (Un.flat b) (some r)).1.length ≤ T) :
    Calls Try.prog 31 #[.agg #[v, .pointer (some ⟨pb, 0, none⟩)]] w fun e w' => WhW G X F w (Un.flat b) (some r) e w' := by
  have hl1 : (Un.flat b).length + (G.W r).1.length ≤ T := by
    have h1 : (Un.joinB (Un.flat b) (G.W r).1).length ≤ T := hl
    rw [Un.joinB_length] at h1
    exact h1
  have hrk := hid (h.rank_wh hp hk2 hW)
  have hlt := h.ps_lt r pb hr
  have c0 : w.cell? ⟨pb, 0, none⟩ = some (.pointer (some ⟨g, 0, none⟩)) := by rw [cellB hm]; rfl
  obtain ⟨g0, g1, -, -⟩ := row_cells hg
  have hW0 := Wf.start w v (.pointer (some ⟨pb, 0, none⟩))
  obtain ⟨av, cv, hv, _⟩ := id hb.bv
  replace h := hid h
  replace hb := hid hb
  replace hbg := hid hbg
  replace hW := hid hW
  have hv2 := hid hv
  subst hv
  clear hm hg hv2
  go_enter Try.func31, Try.ntmps31
  go_upto_region 1 with (fail)
  have hs : (w.alloc (.cells #[.slice av b.length cv, .pointer (some ⟨pb, 0, none⟩)] 76)).heap.size = w.heap.size + 1 := by simp
  generalize (w.alloc (.cells #[.slice av b.length cv, .pointer (some ⟨pb, 0, none⟩)] 76)).alloc (.cells #[.slice none 0 0, .pointer none] 76) = W at *
  obtain ⟨x0, x1, -, -⟩ := row_cells hW0.b0
  have z0 := cell_ch hW0.ch c0 (fun h => h)
  have z1 := cell_ch hW0.ch g0 (fun h => h)
  have z2 := cell_ch hW0.ch g1 (fun h => h)
  have HI := ih W vg bg nx p (Fg F w W) (h.out.grow hW0.ch) (hbg.out.grow hW0.ch) hp hk (by rw [← hW.out]; omega)
  replace hW0 := hid hW0
  clear c0 g0 g1 ih
  have hP0 := hid (h.out.grow hW0.out.ch)
  have hb0 := hid (hb.out.grow hW0.out.ch)
  have hpb : pb < w.heap.size := h.out.lt (.inr ⟨r, hr⟩)
  go_upto_region 4 with (go_at_call 31; refine HI.mono ?_; clear HI; rintro e w1 ⟨v1, b1, p1, rfl, hb1, hp1, hf1, hP1, hc1⟩; obtain ⟨a1, c1, hv1, _⟩ := id hb1.bv; subst hv1; have d0 := hid (hP0.out.stay (hc1.mono (fun _ h => Gx.rows_own h)) hW0.out.b0 ne5 ne6); have d1 := hid (hP0.out.stay (hc1.mono (fun _ h => Gx.rows_own h)) hW0.out.b1 ne5 ne6); replace hb1 := hid hb1; replace hp1 := hid hp1; replace hf1 := hid hf1; replace hP1 := hid hP1; replace hc1 := hid hc1)
  obtain ⟨-, up, hm1, -, -⟩ := hP1.out.rest r pb hr
  have hPa := hid (hP1.out.quiet (al_ch w1 (.cells #[(.slice a1 b1.length c1), oP p1] 76)))
  have hba := hid (hb1.out.quiet (al_ch w1 (.cells #[(.slice a1 b1.length c1), oP p1] 76)))
  have d0a := blk_alloc (x := .cells #[(.slice a1 b1.length c1), oP p1] 76) d0.out
  have d1a := blk_alloc (x := .cells #[(.slice a1 b1.length c1), oP p1] 76) d1.out
  have hga := World.alloc_heap_new w1 (.cells #[(.slice a1 b1.length c1), oP p1] 76)
  have hma := blk_alloc (x := .cells #[(.slice a1 b1.length c1), oP p1] 76) hm1
  have hca := hid (((hW0.out.ch.mono (fun _ h => h.elim)).trans hc1.out (fun _ h => .inl h)).al (.cells #[(.slice a1 b1.length c1), oP p1] 76))
  have hg1 : w.heap.size + 1 < w1.heap.size := (Array.getElem?_eq_some_iff.1 d1.out).1
  have hgF : Hid (¬ Fg F w W w1.heap.size) := fun e => Nat.lt_irrefl _ (hP1.out.F_lt _ e)
  have hb0a := hid ((hb0.out.keep hc1.out (hP0.out.tg.sub (fun _ h => Gx.rows_own h))).quiet (al_ch w1 (.cells #[(.slice a1 b1.length c1), oP p1] 76)))
  clear x0 x1 z0 z1 z2 hm1 hb1 hP1 d0 d1 hc1
  generalize w1.alloc (.cells #[(.slice a1 b1.length c1), oP p1] 76) = W1 at *
  generalize w1.heap.size = g1 at *
  obtain ⟨x0, x1, -, -⟩ := row_cells d0a
  have m0 : W1.cell? ⟨pb, 0, none⟩ = some (oP up) := by rw [cellB hma]; rfl
  have mf := frozenB hma 0
  replace hga := hid hga
  replace hma := hid hma
  replace d0a := hid d0a
  replace d1a := hid d1a
  go_upto_region 5 with (fail)
  have hcs : Ch (fun k => k = pb) W1 (W1.setCell ⟨pb, 0, none⟩ (.pointer (some ⟨g1, 0, none⟩))) := Ch.setCell W1 _ _ rfl
  have d0b := hid (blk_other (a := ⟨pb, 0, none⟩) (v := .pointer (some ⟨g1, 0, none⟩)) d0a.out (by show w.heap.size ≠ pb; omega))
  have d1b := hid (blk_other (a := ⟨pb, 0, none⟩) (v := .pointer (some ⟨g1, 0, none⟩)) d1a.out (by show w.heap.size + 1 ≠ pb; omega))
  have hgb := blk_other (a := ⟨pb, 0, none⟩) (v := .pointer (some ⟨g1, 0, none⟩)) hga.out (by show g1 ≠ pb; omega)
  have hmb := hid (blk_set (i := 0) (v := .pointer (some ⟨g1, 0, none⟩)) hma.out)
  have hO : Tg W1 (fun k => k = pb) := hPa.out.tg.sub (fun k e => .inr ⟨r, by rw [e]; exact hr⟩)
  have hfb : Un.flat b1 = (G.W r).1 := by rw [hf1.out, hW.out]
  have hpb1 : RestV X (G.W r).2 p1 := by rw [hW.out]; exact hp1.out
  have hbb := hid (hba.out.keep hcs hO)
  have hP2 := hid (hPa.out.short hG hr hcs hmb.out hgb hgF.out hbb.out hpb1 hfb hrk.out)
  have hcb := hid (hca.out.trans (hcs.mono (O1 := X.rows) (fun k e => ⟨r, by rw [e]; exact hr⟩)) (fun _ h => .inl h))
  have hb2 := hid (hb0a.out.keep hcs hO)
  clear hPa hba d0a d1a hga hma hca hcs x0 x1 m0 mf hO hmb
  replace hpb1 := hid hpb1
  replace hfb := hid hfb
  generalize W1.setCell ⟨pb, 0, none⟩ (.pointer (some ⟨g1, 0, none⟩)) = W2 at *
  have hcd := Ch.drew (fun _ => False) W2
  obtain ⟨n0, -, -, -⟩ := row_cells ((hcd.same _ (Array.getElem?_eq_some_iff.1 d0b.out).1 (fun h => h)).trans d0b.out)
  obtain ⟨q0, q1, -, -⟩ := row_cells ((hcd.same _ (Array.getElem?_eq_some_iff.1 hgb).1 (fun h => h)).trans hgb)
  have HJ := join_any W2.drew (.slice av b.length cv) (.slice a1 b1.length c1) b b1 (hb2.out.quiet hcd).bv (hbb.out.quiet hcd).bv hb.out.ok hbb.out.ok
    (by have := (hb.out.small (Nat.le_refl _)).1; omega) (by have := (hbb.out.small (Nat.le_refl _)).1; rw [hfb.out] at this; omega)
    (fun s hs => by have := (hb.out.small (Nat.le_refl _)).2.1 s hs; omega) (fun x => by have := (hbb.out.small (Nat.le_refl _)).2.2 x; rw [hfb.out] at this; omega)
  replace hgb := hid hgb
  replace hcd := hid hcd
  refine wp_region_held_drew (S := (fun w' => w'.cell? ⟨w.heap.size, 0, none⟩ = some (.slice av b.length cv) ∧ w'.cell? ⟨g1, 0, none⟩ = some (.slice a1 b1.length c1) ∧ w'.cell? ⟨g1, 1, none⟩ = some (oP p1))) (by kernel_rfl) (by first | trivial | ((try dsimp only); go_keep)) (fun hHeld => ?_)
  refine wpAnyH_take (i := 0) (v := ?vvv1) rfl (by kernel_rfl) (by kernel_rfl) (by kernel_rfl) (fun _ _ _ h => h) (Or.inl ⟨by rfl, ?yyv1⟩) (by assumption) ?rrv1
  case yyv1 => (intro w' hSw; (try dsimp only at hSw); go_simp; (try with_reducible rfl))
  try simp only [Act.put, List.setIfInBounds_toArray, List.set_cons_zero, List.set_cons_succ]
  refine wpAnyH_take (i := 1) (v := ?vvv2) rfl (by kernel_rfl) (by kernel_rfl) (by kernel_rfl) (fun _ _ _ h => h) (Or.inl ⟨by rfl, ?yyv2⟩) (by assumption) ?rrv2
  case yyv2 => (intro w' hSw; (try dsimp only at hSw); go_simp; (try with_reducible rfl))
  try simp only [Act.put, List.setIfInBounds_toArray, List.set_cons_zero, List.set_cons_succ]
  refine wpAnyH_take (i := 2) (v := ?vvv3) rfl (by kernel_rfl) (by kernel_rfl) (by kernel_rfl) (fun _ _ _ h => h) (Or.inl ⟨by rfl, ?yyv3⟩) (by assumption) ?rrv3
  case yyv3 => (intro w' hSw; (try dsimp only at hSw); go_simp; (try with_reducible rfl))
  try simp only [Act.put, List.setIfInBounds_toArray, List.set_cons_zero, List.set_cons_succ]
  refine wpAnyH_take (i := 3) (v := ?vvv4) rfl (by kernel_rfl) (by kernel_rfl) (by kernel_rfl) (fun _ _ _ h => h) (Or.inl ⟨by rfl, ?yyv4⟩) (by assumption) ?rrv4
  case yyv4 => (intro w' hSw; (try dsimp only at hSw); go_simp; (try with_reducible rfl))
  try simp only [Act.put, List.setIfInBounds_toArray, List.set_cons_zero, List.set_cons_succ]
  refine wpAnyH_take (i := 5) (v := ?vvv5) rfl (by kernel_rfl) (by kernel_rfl) (by kernel_rfl) (fun _ _ _ h => h) (Or.inl ⟨by rfl, ?yyv5⟩) (by assumption) ?rrv5
  case yyv5 => (intro w' hSw; (try dsimp only at hSw); go_simp; (try with_reducible rfl))
  try simp only [Act.put, List.setIfInBounds_toArray, List.set_cons_zero, List.set_cons_succ]
  refine wpAnyH_take (i := 6) (v := ?vvv6) rfl (by kernel_rfl) (by kernel_rfl) (by kernel_rfl) (fun _ _ _ h => h) (Or.inl ⟨by rfl, ?yyv6⟩) (by assumption) ?rrv6
  case yyv6 => (intro w' hSw; (try dsimp only at hSw); go_simp; (try with_reducible rfl))
  try simp only [Act.put, List.setIfInBounds_toArray, List.set_cons_zero, List.set_cons_succ]
  refine wpAnyH_ready (rs := [4]) (by kernel_rfl) (by simp) (AllReadyH.cons rfl (fun K hK => ?_) AllReadyH.nil)
  go_simp
  refine HJ.mono ?_
  clear HJ
  rintro e w3 ⟨v3, b3, rfl, hF, hok3, hfl3, -⟩
  obtain ⟨a3, k3, hv3, _⟩ := id hF.v
  subst hv3
  have hc3 := hF.2.1
  have hS5 := And.intro (cell_ch hc3 n0 (fun h => h)) (And.intro (cell_ch hc3 q0 (fun h => h)) (cell_ch hc3 q1 (fun h => h)))
  have hS6 := hS5
  have hN1 := (hc3.same _ (Array.getElem?_eq_some_iff.1 d1b.out).1 (fun h => h)).trans d1b.out
  obtain ⟨u0, u1, u2, u3⟩ := row_cells hN1
  replace hF := hid hF
  replace hc3 := hid hc3
  replace hN1 := hid hN1
  dsimp only
  clear hHeld
  refine hK.out _ _ ?hs (fun hHeld => ?_)
  case hs => (first | exact hS5 | trivial | ((try dsimp only); go_keep) | ((try dsimp only); simp [*, World.cell?_alloc_some, World.cell?_setCell_far, World.cell?_setCell_other]))
  clear hK K
  try simp only [Act.put, List.setIfInBounds_toArray, List.set_cons_zero, List.set_cons_succ]
  refine wpAnyH_take (i := 7) (v := ?vvv7) rfl (by kernel_rfl) (by kernel_rfl) (by kernel_rfl) (fun _ _ _ h => h) (Or.inl ⟨by rfl, ?yyv7⟩) (by assumption) ?rrv7
  case yyv7 => (intro w' hSw; (try dsimp only at hSw); go_simp; (try with_reducible rfl))
  try simp only [Act.put, List.setIfInBounds_toArray, List.set_cons_zero, List.set_cons_succ]
  refine wpAnyH_ready (rs := [8]) (by kernel_rfl) (by simp) (AllReadyH.cons rfl (fun K hK => ?_) AllReadyH.nil)
  go_simp
  have hS5 := And.intro (cell_two (y := w.heap.size + 1) (a := .slice a3 b3.length k3) (b := oP p1) hS6.1 (by omega)) (And.intro (cell_two (y := w.heap.size + 1) (a := .slice a3 b3.length k3) (b := oP p1) hS6.2.1 (by omega)) (cell_two (y := w.heap.size + 1) (a := .slice a3 b3.length k3) (b := oP p1) hS6.2.2 (by omega)))
  clear hHeld
  refine hK.out _ _ ?hs (fun hHeld => ?_)
  case hs => (first | exact hS5 | trivial | ((try dsimp only); go_keep) | ((try dsimp only); simp [*, World.cell?_alloc_some, World.cell?_setCell_far, World.cell?_setCell_other]))
  clear hK K
  try simp only [Act.put, List.setIfInBounds_toArray, List.set_cons_zero, List.set_cons_succ]
  refine wpAnyH_done (by kernel_rfl) ?_ _
  clear hHeld
  clear hS5 hS6 u0 u1 u2 u3 n0 q0 q1
  go_wp2
  refine Wh_ret rfl rfl (row_set hN1.out) ?_
  have hF1 : Fg F w W (w.heap.size + 1) := .inr ⟨by omega, (Array.getElem?_eq_some_iff.1 hW0.out.b1).1⟩
  have hc3' : Ch (fun _ => False) W2 w3 := hcd.out.trans hc3.out (fun _ h => h.elim)
  have hcw := row_set_ch (hcb.out.trans hc3' (fun _ h => h.elim)) (b := w.heap.size + 1) (by omega) (.slice a3 b3.length k3) (oP p1)
  have hcf : Ch (Fg F w W) w3 ((w3.setCell ⟨w.heap.size + 1, 0, none⟩ (.slice a3 b3.length k3)).setCell ⟨w.heap.size + 1, 1, none⟩ (oP p1)) :=
    ((Ch.setCell w3 ⟨w.heap.size + 1, 0, none⟩ _ hF1).trans (Ch.setCell _ ⟨w.heap.size + 1, 1, none⟩ _ hF1) (fun _ h => .inl h))
  have hP4 := (hP2.out.quiet hc3').far hcf
  have hb4 := (hF.out.tag (F := Fg F w W) hok3 (fun k hk => hP2.out.F_lt k hk)).far hcf
  refine ⟨_, b3, p1, rfl, hb4.mono (fun _ h => .inl h), hpb1.out, ?_, hP4.mono (fun _ h => .inl h), hcw⟩
  rw [hfl3, hfb.out]
  rfl
theorem whole_rows {T : Nat} (hT : T < 100000000) {G : Gr} (hG : G.OK) {X : Gx} : ∀ (k : Nat), WhWOK T G X k := by
  intro k
  induction k with
  | zero =>
    intro w v b nx p F h hb hp hk hl
    cases nx with
    | some s => exact absurd (hk s rfl) (Nat.not_lt_zero _)
    | none =>
      obtain rfl : p = none := hp
      exact whole_none h hb
  | succ k ih =>
    intro w v b nx p F h hb hp hk hl
    cases nx with
    | none =>
      obtain rfl : p = none := hp
      exact whole_none h hb
    | some r =>
      obtain ⟨hr, hne⟩ := hp
      cases p with
      | none => exact absurd rfl hne
      | some pb =>
        obtain ⟨_, up, hm, h2, h3⟩ := h.rest r pb hr
        cases up with
        | none => exact whole_self h hb hr hm (h2 rfl)
        | some g =>
          obtain ⟨_, vg, bg, nx, p, hg, hbg, hp, hk2, hW⟩ := h3 g rfl
          exact whole_more hT hG ih h hb hr hm hg hbg hp (fun s hs => by have := hk r rfl; have := hk2 s hs; omega) hk2 hW hl
def WhP (G : Gr) (X : Gx) (F : Nat → Prop) (w : World) (l : List Nm) (nx : Option Nat) (e : Ending) (w' : World) : Prop :=
  ∃ v' b' p', e = .returned (.agg #[v', oP p']) ∧ BagT w' F v' b' ∧ RestV X (G.wh l nx).2 p' ∧ Un.flat b' = (G.wh l nx).1 ∧ PG w' G X F ∧ Ch (X.own G.n) w w'
def WhOK (T : Nat) (G : Gr) (X : Gx) (k : Nat) : Prop := ∀ (w : World) (v : Value) (b : Bag) (nx p : Option Nat) (F : Nat → Prop), PG w G X F → BagT w F v b → RestV X nx p → (∀ s, nx = some s → X.rr s < k) → (G.wh (Un.flat b) nx).1.length ≤ T →
    Calls Try.prog 31 #[.agg #[v, oP p]] w fun e w' => WhP G X F w (Un.flat b) nx e w'
theorem whole_any {T : Nat} (hT : T < 100000000) {G : Gr} (hG : G.OK) {X : Gx} (k : Nat) : WhOK T G X k := by
  intro w v b nx p F h hb hp hk hl
  refine (whole_rows hT hG k w v b nx p F h hb hp hk hl).mono ?_
  rintro e w' ⟨v', b', p', h1, h2, h3, h4, h5, h6⟩
  exact ⟨v', b', p', h1, h2, h3, h4, h5, h6.mono (fun _ h => Gx.rows_own h)⟩
end Go.Proofs.Ytcogpcalghfghaa

namespace Go.Proofs.Ytcogpcalghfghaa
open Go.RowKit
open Un (Bag Nm Gr)
variable {F : Nat → Prop}

/-- What later ghosts keep of an earlier one. -/
structure XE (w : World) (X Y : Gx) : Prop where
  pi : Y.pi = X.pi
  rd : Y.rd = X.rd
  pt : Y.pt = X.pt
  ps : ∀ r b, X.ps r = some b → Y.ps r = some b
  new : ∀ r b, Y.ps r = some b → X.ps r = some b ∨ w.heap.size ≤ b
  low : ∀ r, r ≤ 1000000000 → Y.ps r = X.ps r
theorem XE.refl (w : World) (X : Gx) : XE w X X := ⟨rfl, rfl, rfl, fun _ _ h => h, fun _ _ h => .inl h, fun _ _ => rfl⟩
theorem XE.trans {w w' : World} {X Y Z : Gx} (h : XE w X Y) (h' : XE w' Y Z) (hs : w.heap.size ≤ w'.heap.size) : XE w X Z :=
  ⟨h'.pi.trans h.pi, h'.rd.trans h.rd, h'.pt.trans h.pt, fun r b hr => h'.ps r b (h.ps r b hr), fun r b hr => by
    rcases h'.new r b hr with h1 | h1
    · exact h.new r b h1
    · exact .inr (Nat.le_trans hs h1), fun r hr => (h'.low r hr).trans (h.low r hr)⟩
theorem XE.own {w : World} {X Y : Gx} (h : XE w X Y) {n k : Nat} (hk : Y.own n k) : X.own n k ∨ w.heap.size ≤ k := by
  rcases hk with ⟨i, hi, e⟩ | ⟨r, hr⟩
  · rw [h.pi] at e; exact .inl (.inl ⟨i, hi, e⟩)
  · rcases h.new r k hr with h1 | h1
    · exact .inl (.inr ⟨r, h1⟩)
    · exact .inr h1
/-- A row variable is laid in a block. -/
def Gx.lay (X : Gx) (r pb : Nat) : Gx := { X with ps := fun q => if q = r then some pb else X.ps q, rr := fun q => if q = r then 0 else X.rr q + 1, rm := fun q => if q = r then 0 else X.rm q }
theorem lay_ps {X : Gx} {r pb : Nat} (h : X.ps r = none) : ∀ q b, X.ps q = some b → (X.lay r pb).ps q = some b := by
  intro q b hq
  show (if q = r then some pb else X.ps q) = some b
  rw [if_neg (fun e => by rw [e, h] at hq; cases hq)]
  exact hq
theorem XE.lay {w : World} {X : Gx} {r pb : Nat} (h : X.ps r = none) (hb : w.heap.size ≤ pb) (hr : 1000000000 < r) : XE w X (X.lay r pb) := by
  refine ⟨rfl, rfl, rfl, lay_ps h, fun q b hq => ?_, fun q hq => if_neg (by omega)⟩
  have hq' : (if q = r then some pb else X.ps q) = some b := hq
  split at hq'
  · cases hq'; exact .inr hb
  · exact .inl hq'
theorem RestV.lay {X : Gx} {r pb : Nat} (h : X.ps r = none) {o p : Option Nat} (hv : RestV X o p) : RestV (X.lay r pb) o p := hv.ext (lay_ps h)
/-- A graph with the same nodes, in which a row variable that is new to the memory stands for itself. -/
theorem PG.lay' {w w' : World} {G H : Gr} {X : Gx} {r pb : Nat} (h : PG w G X F) (hc : Ch (fun _ => False) w w') (hb : w'.heap[pb]? = some (.cells #[.pointer none, .int .i64 0] 83 (0, 0))) (hold : ∀ q b, X.ps q = some b → b ≠ pb) (hnF : ¬ F pb) (hr : X.ps r = none)
    (hn : H.n = G.n) (hk : H.kind = G.kind) (hki : H.kids = G.kids) (ho : H.ops = G.ops) (hv : H.rv = G.rv) (hrep : H.rep = G.rep) (hm : G.m ≤ H.m) (hrm : r < H.m) (hW : ∀ q b, X.ps q = some b → H.W q = G.W q) (hWr : H.W r = ([], some r)) (hno : ∀ q, q < H.m → q ≠ r → X.ps q = none → H.W q = ([], some q)) : PG w' H (X.lay r pb) F := by
  have hq := h.quiet hc
  have hps : ∀ q b, (X.lay r pb).ps q = some b → (q = r ∧ b = pb) ∨ (q ≠ r ∧ X.ps q = some b) := fun q b hqb => by
    have hq' : (if q = r then some pb else X.ps q) = some b := hqb
    split at hq'
    · rename_i e; cases hq'; exact .inl ⟨e, rfl⟩
    · rename_i e; exact .inr ⟨e, hq'⟩
  have hWlaid : ∀ q b, X.ps q = some b → ∀ v, (G.W q).2 = some v → v ≠ r := fun q b hqb v hv e => by
    have := h.ps_W q b hqb v hv
    rw [e] at this
    exact this hr
  refine ⟨hq.F_lt, ?_, ?_, ?_, ?_, ?_, ?_, ?_, ?_, ?_, ?_, ?_, Nat.le_trans h.mb hm⟩
  · rw [hn]; exact h.pi_inj
  · intro q s b h1 h2
    rcases hps q b h1 with ⟨rfl, rfl⟩ | ⟨e1, h1⟩
    · rcases hps s _ h2 with ⟨rfl, _⟩ | ⟨e2, h2⟩
      · rfl
      · exact absurd rfl (hold _ _ h2)
    · rename_i h1'
      rcases hps s _ h2 with ⟨rfl, e3⟩ | ⟨e2, h2⟩
      · exact absurd e3 (hold q _ h1)
      · exact h.ps_inj q s b h1 h2
  · rw [hn]; exact h.root_lt
  · rw [hn, hrep]; exact h.root_rep
  · rw [hn, hrep]; exact h.root_one
  · rw [hn, hrep, hk]; exact h.root_kind
  · intro i hi
    rw [hn] at hi
    obtain ⟨hf, av, ov, rp, up, b, h1, h2, h3, h4, h5, h6, h7⟩ := hq.node i hi
    refine ⟨hf, av, ov, rp, up, b, by rw [hk]; exact h1, by rw [hki]; exact h2, h3, by rw [ho]; exact h4, by rw [hv]; exact h5.lay hr, h6, by rw [hn]; exact h7⟩
  · intro q b hqb
    rcases hps q b hqb with ⟨rfl, rfl⟩ | ⟨e, h1⟩
    · refine ⟨hnF, none, ?_, fun _ => hWr, fun g hg => by cases hg⟩
      show w'.heap[b]? = some (.cells #[.pointer none, .int .i64 (((if q = q then 0 else X.rm q : Nat)) : Int)] 83 (0, 0))
      rw [if_pos rfl]
      exact hb
    · obtain ⟨hf, up, h1', h2, h3⟩ := hq.rest q b h1
      have eW := hW q b h1
      refine ⟨hf, up, ?_, fun e => by rw [eW]; exact h2 e, fun g hg => ?_⟩
      · show w'.heap[b]? = some (.cells #[oP up, .int .i64 (((if q = r then 0 else X.rm q : Nat)) : Int)] 83 (0, 0))
        rw [if_neg e]
        exact h1'
      · obtain ⟨hfg, v, bg, nx, p, g1, g2, g3, g4, g5⟩ := h3 g hg
        refine ⟨hfg, v, bg, nx, p, g1, g2, g3.lay hr, fun s hs => ?_, ?_⟩
        · show (if s = r then 0 else X.rr s + 1) < (if q = r then 0 else X.rr q + 1)
          have := g4 s hs
          rw [if_neg e]
          split <;> omega
        · rw [eW, g5]
          cases nx with
          | none => rfl
          | some s =>
            obtain ⟨e1, e2⟩ := g3
            obtain ⟨c, hc⟩ := Option.ne_none_iff_exists'.1 e2
            show (Un.joinB _ (G.W s).1, (G.W s).2) = (Un.joinB _ (H.W s).1, (H.W s).2)
            rw [hW s c (e1.trans hc)]
  · intro q b hqb
    rcases hps q b hqb with ⟨rfl, rfl⟩ | ⟨e, h1⟩
    · exact hrm
    · have := h.ps_lt q b h1; omega
  · intro q b hqb v hv
    show (if v = r then some pb else X.ps v) ≠ none
    split
    · simp
    · rename_i e0
      rcases hps q b hqb with ⟨rfl, rfl⟩ | ⟨e, h1⟩
      · rw [hWr] at hv
        cases hv
        exact absurd rfl e0
      · rw [hW q b h1] at hv
        exact h.ps_W q b h1 v hv
  · intro q hq2 hqn
    have hqn' : (if q = r then some pb else X.ps q) = none := hqn
    split at hqn'
    · cases hqn'
    · rename_i e
      exact hno q hq2 e hqn'
theorem PG.lay {w w' : World} {G H : Gr} {X : Gx} {r pb : Nat} (h : PG w G X F) (hc : Ch (fun _ => False) w w') (hb : w'.heap[pb]? = some (.cells #[.pointer none, .int .i64 0] 83 (0, 0))) (hl : w.heap.size ≤ pb) (hr : X.ps r = none)
    (hn : H.n = G.n) (hk : H.kind = G.kind) (hki : H.kids = G.kids) (ho : H.ops = G.ops) (hv : H.rv = G.rv) (hrep : H.rep = G.rep) (hm : G.m ≤ H.m) (hrm : r < H.m) (hW : ∀ q b, X.ps q = some b → H.W q = G.W q) (hWr : H.W r = ([], some r)) (hno : ∀ q, q < H.m → q ≠ r → X.ps q = none → H.W q = ([], some q)) : PG w' H (X.lay r pb) F :=
  h.lay' hc hb (fun q b hqb e => by have := h.lt (k := b) (.inr ⟨q, hqb⟩); omega) (fun e => by have := h.F_lt _ e; omega) hr hn hk hki ho hv hrep hm hrm hW hWr hno
/-- A new row variable. -/
theorem PG.opened {w w' : World} {G : Gr} {X : Gx} {pb : Nat} (h : PG w G X F) (hc : Ch (fun _ => False) w w') (hb : w'.heap[pb]? = some (.cells #[.pointer none, .int .i64 0] 83 (0, 0))) (hl : w.heap.size ≤ pb) : X.ps G.m = none ∧ PG w' G.opened (X.lay G.m pb) F := by
  have hr : X.ps G.m = none := by
    cases e : X.ps G.m with
    | none => rfl
    | some b => exact absurd (h.ps_lt _ _ e) (Nat.lt_irrefl _)
  refine ⟨hr, h.lay hc hb hl hr rfl rfl rfl rfl rfl rfl (Nat.le_succ _) (Nat.lt_succ_self _) (fun q b hq => ?_) (Un.Gr.opened_new G) (fun q hq hne hqn => ?_)⟩
  · exact Un.Gr.opened_old (h.ps_lt q b hq)
  · have hq' : q < G.m + 1 := hq
    rw [Un.Gr.opened_old (by omega)]
    exact h.ps_no q (by omega) hqn
/-- A row variable stands for names and what is behind them. -/
theorem PG.stands {w w' : World} {G : Gr} {X : Gx} (hG : G.OK) (h : PG w G X F) {v pv g : Nat} {vb : Value} {b : Bag} {x p : Option Nat} (hv : X.ps v = some pv) (hW : G.W v = ([], some v)) (hc : Ch (fun k => k = pv) w w')
    (hn : w'.heap[pv]? = some (.cells #[.pointer (some ⟨g, 0, none⟩), .int .i64 (X.rm v : Nat)] 83 (0, 0))) (hg : w'.heap[g]? = some (.cells #[vb, oP p] 76 (0, 0))) (hgF : ¬ F g) (hb : BagT w' F vb b) (hx : RestV X x p) (hxW : ∀ y, x = some y → y ≠ v ∧ G.W y = ([], some y) ∧ X.rr y < X.rr v) : PG w' (G.stands v (Un.flat b) x) X F := by
  have hO : Tg w (fun k => k = pv) := h.tg.sub (fun k e => .inr ⟨v, by rw [e]; exact hv⟩)
  have eW : ∀ r, (G.stands v (Un.flat b) x).W r = if (G.W r).2 = some v then (Un.joinB (G.W r).1 (Un.flat b), x) else G.W r := fun r => rfl
  refine ⟨fun k hk => Nat.lt_of_lt_of_le (h.F_lt k hk) hc.size, h.pi_inj, h.ps_inj, h.root_lt, h.root_rep, h.root_one, h.root_kind, fun j hj => ?_, fun s c hs => ?_, h.ps_lt, fun r c hr u hu => ?_, fun r hr hrn => ?_, h.mb⟩
  · obtain ⟨hf, av, ov, rp, up, b, h1⟩ := (h.node j hj).keep hc hO (fun e => h.apart hj (r := v) (by rw [e]; exact hv))
    exact ⟨hf, av, ov, rp, up, b, h1⟩
  · by_cases e : s = v
    · subst e
      rw [hv] at hs
      cases hs
      refine ⟨(h.rest s pv hv).1, some g, hn, fun e => (by cases e), fun q hq => ?_⟩
      cases hq
      refine ⟨hgF, vb, b, x, p, hg, hb, hx, fun y hy => (hxW y hy).2.2, ?_⟩
      rw [eW, hW, if_pos rfl, Un.joinB_nil (Un.flat_srt hb.ok)]
      cases x with
      | none => rfl
      | some y =>
        obtain ⟨y1, y2, _⟩ := hxW y rfl
        show (Un.flat b, some y) = (Un.joinB (Un.flat b) ((G.stands s (Un.flat b) (some y)).W y).1, ((G.stands s (Un.flat b) (some y)).W y).2)
        have : (G.stands s (Un.flat b) (some y)).W y = ([], some y) := by
          show (if (G.W y).2 = some s then _ else G.W y) = _
          rw [y2, if_neg (fun e => y1 (Option.some.inj e))]
        rw [this]
        rfl
    · obtain ⟨hf, up, h1, h2, h3⟩ := (h.rest s c hs).keep hc hO (fun e2 => e (h.ps_inj s v c hs (by rw [e2]; exact hv)))
      refine ⟨hf, up, h1, fun hu => ?_, fun q hq => ?_⟩
      · rw [eW, h2 hu, if_neg (fun e2 => e (Option.some.inj e2))]
      · obtain ⟨hfg, v2, bg, nx, p2, g1, g2, g3, g4, g5⟩ := h3 q hq
        refine ⟨hfg, v2, bg, nx, p2, g1, g2, g3, g4, ?_⟩
        rw [eW, g5]
        cases nx with
        | none => exact if_neg (fun e => by cases e)
        | some u =>
          show (if (G.W u).2 = some v then (Un.joinB (Un.joinB (Un.flat bg) (G.W u).1) (Un.flat b), x) else (Un.joinB (Un.flat bg) (G.W u).1, (G.W u).2)) = (Un.joinB (Un.flat bg) (if (G.W u).2 = some v then (Un.joinB (G.W u).1 (Un.flat b), x) else G.W u).1, (if (G.W u).2 = some v then (Un.joinB (G.W u).1 (Un.flat b), x) else G.W u).2)
          by_cases e2 : (G.W u).2 = some v
          · rw [if_pos e2, if_pos e2, Un.joinB_assoc (Un.flat_srt g2.ok)]
          · rw [if_neg e2, if_neg e2]
  · rw [eW] at hu
    split at hu
    · obtain ⟨e1, e2⟩ : RestV X (some u) p := by
        have hu' : x = some u := hu
        rw [← hu']; exact hx
      rw [e1]; exact e2
    · exact h.ps_W r c hr u hu
  · have h1 := h.ps_no r hr hrn
    rw [eW, h1, if_neg]
    intro e
    have : r = v := Option.some.inj e
    rw [this, hv] at hrn
    cases hrn
set_option maxHeartbeats 1000000 in
theorem take_nil (w : World) (v p : Value) (n : Nat) {a : Option Addr} {c : Nat} (hv : v = .slice a n c) :
    Calls Try.prog 38 #[.pointer none, v, p] w fun e w' => e = .returned (.bool ((n : Int) == 0)) ∧ w' = w := by
  subst hv
  go_enter Try.func38, Try.ntmps38
  go_wp2
  go_ret
  exact ⟨rfl, rfl⟩
set_option maxHeartbeats 1000000 in
theorem take_some (w : World) (pv : Nat) (a : Option Addr) (n c : Nat) (p : Option Nat) {u z : Value} (h : w.heap[pv]? = some (.cells #[u, z] 83 (0, 0))) :
    Calls Try.prog 38 #[.pointer (some ⟨pv, 0, none⟩), .slice a n c, oP p] w fun e w' => e = .returned (.bool true) ∧ w' = (w.alloc (.cells #[.slice a n c, oP p] 76)).setCell ⟨pv, 0, none⟩ (.pointer (some ⟨w.heap.size, 0, none⟩)) := by
  have ha := blk_alloc (x := .cells #[.slice a n c, oP p] 76) h
  have c0 : (w.alloc (.cells #[.slice a n c, oP p] 76)).cell? ⟨pv, 0, none⟩ = some u := by rw [cellB ha]; rfl
  have f0 := frozenB ha 0
  clear h ha
  go_enter Try.func38, Try.ntmps38
  go_wp2
  go_ret
  exact ⟨rfl, rfl⟩
end Go.Proofs.Ytcogpcalghfghaa
