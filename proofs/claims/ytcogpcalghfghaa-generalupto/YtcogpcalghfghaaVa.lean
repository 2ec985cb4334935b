/-
  The program's nodes in memory.
-/
import Derived.Test.YtcogpcalghfghaaMUa
import Derived.Test.YtcogpcalghfghaaSa
set_option linter.unusedVariables false
set_option linter.unusedSimpArgs false
namespace Go.Proofs.Ytcogpcalghfghaa
open Go.RowKit
open Un (Bag Nm Gr)

/-- Where nodes lie: of each its block, the node that it has become, a rank that falls on the way there; of each row variable its block, if it has one, and a rank; what was measured; which row variables were marked. -/
structure Gx where
  pi : Nat → Nat
  root : Nat → Nat
  rk : Nat → Nat
  ps : Nat → Option Nat
  rr : Nat → Nat
  rd : Nat → Nat
  pt : Nat → Nat
  rm : Nat → Nat
def Gx.own (X : Gx) (n : Nat) (k : Nat) : Prop := (∃ i, i < n ∧ X.pi i = k) ∨ ∃ r, X.ps r = some k
def bP (b : Nat) : Value := .pointer (some ⟨b, 0, none⟩)
def oA : Option Nat → Option Addr
  | none => none
  | some b => some ⟨b, 0, none⟩
@[simp] theorem oA_none : oA none = none := rfl
@[simp] theorem oA_some (b : Nat) : oA (some b) = some ⟨b, 0, none⟩ := rfl
abbrev oP (o : Option Nat) : Value := .pointer (oA o)
theorem oP_none : oP none = .pointer none := rfl
theorem oP_some (b : Nat) : oP (some b) = .pointer (some ⟨b, 0, none⟩) := rfl
/-- Blocks of nodes and of row variables alone. -/
def Tg (w : World) (O : Nat → Prop) : Prop := ∀ k cs T fr, O k → w.heap[k]? = some (.cells cs T fr) → T = 78 ∨ T = 83
theorem Tg.none (w : World) : Tg w (fun _ => False) := fun _ _ _ _ h => h.elim
/-- A block of this type. -/
def Tb (w : World) (T : TypeId) (v : Value) : Prop := ∀ k, v.ownBlock = some k → ∃ cs fr, w.heap[k]? = some (.cells cs T fr)
theorem Tb.out {w : World} {T : TypeId} {v : Value} {O : Nat → Prop} (h : Tb w T v) (hO : Tg w O) (h1 : T ≠ 78) (h2 : T ≠ 83) : ∀ k, v.ownBlock = some k → ¬ O k := by
  intro k hk ho
  obtain ⟨cs, fr, e⟩ := h k hk
  rcases hO k cs T fr ho e with e | e
  · exact h1 e
  · exact h2 e
theorem Tb.keep {w w' : World} {T : TypeId} {v : Value} {O : Nat → Prop} (h : Tb w T v) (hc : Ch O w w') (ho : ∀ k, v.ownBlock = some k → ¬ O k) : Tb w' T v := by
  intro k hk
  obtain ⟨cs, fr, e⟩ := h k hk
  exact ⟨cs, fr, (hc.same k (Array.getElem?_eq_some_iff.1 e).1 (ho k hk)).trans e⟩
theorem Tb.row {w : World} {base size n : Nat} {T : TypeId} {v : Value} {xs : List Value} (h : w.ownsRow base T size v n xs) : Tb w T v := by
  intro k hk
  rcases h.2 with ⟨rfl, _⟩ | ⟨g, cap, cur, rfl, _, hg, _⟩
  · cases hk
  · cases hk; exact ⟨_, _, hg⟩
theorem ne1 : (99 : TypeId) ≠ 78 := by decide
theorem ne2 : (99 : TypeId) ≠ 83 := by decide
theorem ne3 : (61 : TypeId) ≠ 78 := by decide
theorem ne4 : (61 : TypeId) ≠ 83 := by decide
theorem ne5 : (76 : TypeId) ≠ 78 := by decide
theorem ne6 : (76 : TypeId) ≠ 83 := by decide
/-- The blocks of F, and those that are new. -/
def Fg (F : Nat → Prop) (w W : World) (k : Nat) : Prop := F k ∨ (w.heap.size ≤ k ∧ k < W.heap.size)
/-- A bag in a block of shares; it is none of F. -/
structure BagT (w : World) (F : Nat → Prop) (v : Value) (b : Bag) : Prop where
  bv : BagV w v b
  tb : Tb w 99 v
  nf : ∀ k, v.ownBlock = some k → ¬ F k
  ok : Un.BagOK b
theorem Tb.lt {w : World} {T : TypeId} {v : Value} (h : Tb w T v) {k : Nat} (hk : v.ownBlock = some k) : k < w.heap.size := by
  obtain ⟨cs, fr, e⟩ := h k hk
  exact (Array.getElem?_eq_some_iff.1 e).1
variable {F F' : Nat → Prop}
theorem BagT.on {w w' : World} {v : Value} {b : Bag} {O : Nat → Prop} (h : BagT w F v b) (hc : Ch O w w') (ho : ∀ k, v.ownBlock = some k → ¬ O k) : BagT w' F v b :=
  ⟨h.bv.keep hc ho, h.tb.keep hc ho, h.nf, h.ok⟩
theorem BagT.keep {w w' : World} {v : Value} {b : Bag} {O : Nat → Prop} (h : BagT w F v b) (hc : Ch O w w') (hO : Tg w O) : BagT w' F v b := h.on hc (h.tb.out hO ne1 ne2)
theorem BagT.far {w w' : World} {v : Value} {b : Bag} (h : BagT w F v b) (hc : Ch F w w') : BagT w' F v b := h.on hc h.nf
theorem BagT.quiet {w w' : World} {v : Value} {b : Bag} (h : BagT w F v b) (hc : Ch (fun _ => False) w w') : BagT w' F v b := h.on hc (fun _ _ h => h)
theorem BagT.mono {w : World} {v : Value} {b : Bag} (h : BagT w F v b) (hs : ∀ k, F' k → F k) : BagT w F' v b := ⟨h.bv, h.tb, fun k hk hf => h.nf k hk (hs k hf), h.ok⟩
theorem BagT.grow {w W : World} {v : Value} {b : Bag} (h : BagT w F v b) (hc : Ch (fun _ => False) w W) : BagT W (Fg F w W) v b :=
  ⟨(h.quiet hc).bv, (h.quiet hc).tb, fun k hk hf => by
    rcases hf with hf | hf
    · exact h.nf k hk hf
    · have := h.tb.lt hk; omega, h.ok⟩
theorem BagF.tag {w w' : World} {v : Value} {b : Bag} (h : BagF w w' v b) (hb : Un.BagOK b) (hF : ∀ k, F k → k < w.heap.size) : BagT w' F v b :=
  ⟨h.v, Tb.row h.1, fun k hk hf => by have := h.2.2 k hk; have := hF k hf; omega, hb⟩
/-- Pointers to blocks in a slice; its block is none of F. -/
structure ArgsT (w : World) (F : Nat → Prop) (v : Value) (bs : List Nat) : Prop where
  sl : ∃ a c, v = .slice a bs.length c ∧ (bs ≠ [] → ∃ g k, a = some ⟨g, k, none⟩ ∧ ∀ i b, bs[i]? = some b → w.cell? ⟨g, k + i, none⟩ = some (bP b))
  tb : Tb w 61 v
  nf : ∀ k, v.ownBlock = some k → ¬ F k
theorem ArgsT.on {w w' : World} {v : Value} {bs : List Nat} {O : Nat → Prop} (h : ArgsT w F v bs) (hc : Ch O w w') (ho : ∀ k, v.ownBlock = some k → ¬ O k) : ArgsT w' F v bs := by
  refine ⟨?_, h.tb.keep hc ho, h.nf⟩
  obtain ⟨a, c, rfl, h1⟩ := h.sl
  refine ⟨a, c, rfl, fun h0 => ?_⟩
  obtain ⟨g, k, rfl, h2⟩ := h1 h0
  refine ⟨g, k, rfl, fun i b hb => ?_⟩
  have h3 := h2 i b hb
  exact (hc.cell (p := ⟨g, k + i, none⟩) (World.block_lt_of_cell? w _ h3) (ho g rfl)).trans h3
theorem ArgsT.keep {w w' : World} {v : Value} {bs : List Nat} {O : Nat → Prop} (h : ArgsT w F v bs) (hc : Ch O w w') (hO : Tg w O) : ArgsT w' F v bs := h.on hc (h.tb.out hO ne3 ne4)
theorem ArgsT.nil (w : World) : ArgsT w F (.slice none 0 0) [] := ⟨⟨none, 0, rfl, fun h => absurd rfl h⟩, (fun k hk => by cases hk), (fun k hk => by cases hk)⟩
/-- What a row's variable is in memory. -/
def RestV (X : Gx) : Option Nat → Option Nat → Prop
  | none, p => p = none
  | some r, p => X.ps r = p ∧ p ≠ none
theorem RestV.ext {X Y : Gx} {o p : Option Nat} (h : RestV X o p) (he : ∀ r b, X.ps r = some b → Y.ps r = some b) : RestV Y o p := by
  cases o with
  | none => exact h
  | some r =>
    obtain ⟨h1, h2⟩ := h
    cases p with
    | none => exact absurd rfl h2
    | some b => exact ⟨he r b h1, h2⟩
theorem RestV.eq {X : Gx} {o p o' p' : Option Nat} (hi : ∀ r s b, X.ps r = some b → X.ps s = some b → r = s) (h : RestV X o p) (h' : RestV X o' p') : p = p' ↔ o = o' := by
  cases o with
  | none =>
    obtain rfl : p = none := h
    cases o' with
    | none => obtain rfl : p' = none := h'; simp
    | some s => simp; exact fun e => h'.2 e.symm
  | some r =>
    obtain ⟨h1, h2⟩ := h
    cases o' with
    | none => obtain rfl : p' = none := h'; simp; exact h2
    | some s =>
      obtain ⟨h3, h4⟩ := h'
      constructor
      · rintro rfl
        cases p with
        | none => exact absurd rfl h2
        | some b => rw [hi r s b h1 h3]
      · intro e
        cases e
        rw [← h1, ← h3]
namespace Un.Gr
/-- Names with what a variable stands for behind them. -/
def wh (G : Gr) (l : List Nm) : Option Nat → List Nm × Option Nat
  | none => (l, none)
  | some r => (joinB l (G.W r).1, (G.W r).2)
theorem whole_wh (G : Gr) (i : Nat) : G.whole i = G.wh (G.ops i) (G.rv i) := by
  unfold whole wh
  cases G.rv i <;> rfl
/-- Two rows are made the same, whatever they are. -/
def sameW (G : Gr) (a b : List Nm × Option Nat) : Option Gr :=
  let d := less a.1 b.1
  let e := less b.1 a.1
  if a.2 = b.2 then (if d = [] ∧ e = [] then some G else none)
  else
    match a.2, b.2 with
    | none, some w => if e = [] then some (G.stands w d none) else none
    | some v, none => if d = [] then some (G.stands v e none) else none
    | some v, some w => some ((G.opened.stands v e (some G.m)).stands w d (some G.m))
    | none, none => none
theorem sameRow_W (G : Gr) (i j : Nat) : G.sameRow i j = G.sameW (G.whole i) (G.whole j) := rfl
end Un.Gr
/-- What a row variable's block says. -/
def RestM (w : World) (G : Gr) (X : Gx) (F : Nat → Prop) (r b : Nat) : Prop :=
  ¬ F b ∧ ∃ up : Option Nat, w.heap[b]? = some (.cells #[oP up, .int .i64 (X.rm r : Nat)] 83 (0, 0)) ∧ (up = none → G.W r = ([], some r)) ∧
    ∀ g, up = some g → ¬ F g ∧ ∃ v bg nx p, w.heap[g]? = some (.cells #[v, oP p] 76 (0, 0)) ∧ BagT w F v bg ∧ RestV X nx p ∧ (∀ s, nx = some s → X.rr s < X.rr r) ∧ G.W r = G.wh (Un.flat bg) nx
/-- What a node's block says. -/
def NodeM (w : World) (G : Gr) (X : Gx) (F : Nat → Prop) (i : Nat) : Prop :=
  ¬ F (X.pi i) ∧ ∃ av ov rp up b, w.heap[X.pi i]? = some (.cells #[.int .i64 (G.kind i : Nat), av, ov, oP rp, oP (up.map X.pi), .int .i64 (X.rd i : Nat), .int .i64 (X.pt i : Nat)] 78 (0, 0)) ∧
    ArgsT w F av ((G.kids i).map X.pi) ∧ BagT w F ov b ∧ Un.flat b = G.ops i ∧ RestV X (G.rv i) rp ∧ (up = none → X.root i = i) ∧ ∀ j, up = some j → j < G.n ∧ X.root j = X.root i ∧ X.rk j < X.rk i
/-- The graph in memory. -/
structure PG (w : World) (G : Gr) (X : Gx) (F : Nat → Prop) : Prop where
  F_lt : ∀ k, F k → k < w.heap.size
  pi_inj : ∀ i j, i < G.n → j < G.n → X.pi i = X.pi j → i = j
  ps_inj : ∀ r s b, X.ps r = some b → X.ps s = some b → r = s
  root_lt : ∀ i, i < G.n → X.root i < G.n
  root_rep : ∀ i, i < G.n → G.rep (X.root i) = G.rep i
  root_one : ∀ i j, i < G.n → j < G.n → G.rep i = G.rep j → X.root i = X.root j
  root_kind : ∀ i, i < G.n → G.kind (G.rep i) ≠ 0 → X.root i = G.rep i
  node : ∀ i, i < G.n → NodeM w G X F i
  rest : ∀ r b, X.ps r = some b → RestM w G X F r b
  ps_lt : ∀ r b, X.ps r = some b → r < G.m
  ps_W : ∀ r b, X.ps r = some b → ∀ v, (G.W r).2 = some v → X.ps v ≠ none
  ps_no : ∀ r, r < G.m → X.ps r = none → G.W r = ([], some r)
  mb : Un.big ≤ G.m
theorem NodeM.blk {w : World} {G : Gr} {X : Gx} {i : Nat} (h : NodeM w G X F i) : ∃ cs, w.heap[X.pi i]? = some (.cells cs 78 (0, 0)) := by
  obtain ⟨_, _, _, _, _, _, h, _⟩ := h
  exact ⟨_, h⟩
theorem RestM.blk {w : World} {G : Gr} {X : Gx} {r b : Nat} (h : RestM w G X F r b) : ∃ cs, w.heap[b]? = some (.cells cs 83 (0, 0)) := by
  obtain ⟨_, _, h, _⟩ := h
  exact ⟨_, h⟩
theorem PG.tg {w : World} {G : Gr} {X : Gx} (h : PG w G X F) : Tg w (X.own G.n) := by
  rintro k cs T fr (⟨i, hi, rfl⟩ | ⟨r, hr⟩) hb
  · obtain ⟨cs', hb'⟩ := (h.node i hi).blk
    rw [hb'] at hb
    cases hb
    exact .inl rfl
  · obtain ⟨cs', hb'⟩ := (h.rest r k hr).blk
    rw [hb'] at hb
    cases hb
    exact .inr rfl
theorem Tg.sub {w : World} {O O1 : Nat → Prop} (h : Tg w O) (hs : ∀ k, O1 k → O k) : Tg w O1 := fun k cs T fr hk => h k cs T fr (hs k hk)
theorem PG.lt {w : World} {G : Gr} {X : Gx} (h : PG w G X F) {k : Nat} (hk : X.own G.n k) : k < w.heap.size := by
  rcases hk with ⟨i, hi, rfl⟩ | ⟨r, hr⟩
  · obtain ⟨cs, e⟩ := (h.node i hi).blk
    exact (Array.getElem?_eq_some_iff.1 e).1
  · obtain ⟨cs, e⟩ := (h.rest r k hr).blk
    exact (Array.getElem?_eq_some_iff.1 e).1
/-- A node is no row variable. -/
theorem PG.apart {w : World} {G : Gr} {X : Gx} (h : PG w G X F) {i r : Nat} (hi : i < G.n) : X.ps r ≠ some (X.pi i) := by
  intro hr
  obtain ⟨cs, e⟩ := (h.node i hi).blk
  obtain ⟨cs', e'⟩ := (h.rest r _ hr).blk
  rw [e] at e'
  cases e'
theorem PG.own_F {w : World} {G : Gr} {X : Gx} (h : PG w G X F) {k : Nat} (hk : X.own G.n k) : ¬ F k := by
  rcases hk with ⟨i, hi, rfl⟩ | ⟨r, hr⟩
  · exact (h.node i hi).1
  · exact (h.rest r k hr).1
theorem NodeM.keep {w w' : World} {G : Gr} {X : Gx} {i : Nat} {O : Nat → Prop} (h : NodeM w G X F i) (hc : Ch O w w') (hO : Tg w O) (hn : ¬ O (X.pi i)) : NodeM w' G X F i := by
  obtain ⟨hf, av, ov, rp, up, b, h1, h2, h3, h4⟩ := h
  exact ⟨hf, av, ov, rp, up, b, (hc.same _ (Array.getElem?_eq_some_iff.1 h1).1 hn).trans h1, h2.keep hc hO, h3.keep hc hO, h4⟩
theorem RestM.keep {w w' : World} {G : Gr} {X : Gx} {r b : Nat} {O : Nat → Prop} (h : RestM w G X F r b) (hc : Ch O w w') (hO : Tg w O) (hn : ¬ O b) : RestM w' G X F r b := by
  obtain ⟨hf, up, h1, h2, h3⟩ := h
  refine ⟨hf, up, (hc.same _ (Array.getElem?_eq_some_iff.1 h1).1 hn).trans h1, h2, fun g hg => ?_⟩
  obtain ⟨hfg, v, bg, nx, p, g1, g2, g3⟩ := h3 g hg
  refine ⟨hfg, v, bg, nx, p, (hc.same _ (Array.getElem?_eq_some_iff.1 g1).1 (fun ho => ?_)).trans g1, g2.keep hc hO, g3⟩
  rcases hO g _ _ _ ho g1 with e | e <;> exact absurd e (by decide)
theorem NodeM.to {w w' : World} {G : Gr} {X : Gx} {i : Nat} {O : Nat → Prop} (h : NodeM w G X F i) (hc : Ch O w w') (hO : ∀ k, O k → k < w.heap.size → F k) (hs : ∀ k, k < w.heap.size → F' k → F k) : NodeM w' G X F' i := by
  obtain ⟨hf, av, ov, rp, up, b, h1, h2, h3, h4⟩ := h
  have hl := (Array.getElem?_eq_some_iff.1 h1).1
  have h2' := h2.on hc (fun k hk ho => h2.nf k hk (hO k ho (h2.tb.lt hk)))
  have h3' := h3.on hc (fun k hk ho => h3.nf k hk (hO k ho (h3.tb.lt hk)))
  exact ⟨fun e => hf (hs _ hl e), av, ov, rp, up, b, (hc.same _ hl (fun e => hf (hO _ e hl))).trans h1, ⟨h2'.sl, h2'.tb, fun k hk e => h2.nf k hk (hs k (h2.tb.lt hk) e)⟩, ⟨h3'.bv, h3'.tb, fun k hk e => h3.nf k hk (hs k (h3.tb.lt hk) e), h3.ok⟩, h4⟩
theorem RestM.to {w w' : World} {G : Gr} {X : Gx} {r b : Nat} {O : Nat → Prop} (h : RestM w G X F r b) (hc : Ch O w w') (hO : ∀ k, O k → k < w.heap.size → F k) (hs : ∀ k, k < w.heap.size → F' k → F k) : RestM w' G X F' r b := by
  obtain ⟨hf, up, h1, h2, h3⟩ := h
  have hl := (Array.getElem?_eq_some_iff.1 h1).1
  refine ⟨fun e => hf (hs _ hl e), up, (hc.same _ hl (fun e => hf (hO _ e hl))).trans h1, h2, fun g hg => ?_⟩
  obtain ⟨hfg, v, bg, nx, p, g1, g2, g3⟩ := h3 g hg
  have hlg := (Array.getElem?_eq_some_iff.1 g1).1
  have g2' := g2.on hc (fun k hk ho => g2.nf k hk (hO k ho (g2.tb.lt hk)))
  exact ⟨fun e => hfg (hs _ hlg e), v, bg, nx, p, (hc.same _ hlg (fun e => hfg (hO _ e hlg))).trans g1, ⟨g2'.bv, g2'.tb, fun k hk e => g2.nf k hk (hs k (g2.tb.lt hk) e), g2.ok⟩, g3⟩
/-- Blocks of F were turned, and F is another set of what lay outside. -/
theorem PG.to {w w' : World} {G : Gr} {X : Gx} {O : Nat → Prop} (h : PG w G X F) (hc : Ch O w w') (hO : ∀ k, O k → k < w.heap.size → F k) (hs : ∀ k, k < w.heap.size → F' k → F k) (hl : ∀ k, F' k → k < w'.heap.size) : PG w' G X F' :=
  ⟨hl, h.pi_inj, h.ps_inj, h.root_lt, h.root_rep, h.root_one, h.root_kind, fun i hi => (h.node i hi).to hc hO hs, fun r b hr => (h.rest r b hr).to hc hO hs, h.ps_lt, h.ps_W, h.ps_no, h.mb⟩
theorem PG.quiet {w w' : World} {G : Gr} {X : Gx} (h : PG w G X F) (hc : Ch (fun _ => False) w w') : PG w' G X F :=
  h.to hc (fun _ h => h.elim) (fun _ _ h => h) (fun k hk => Nat.lt_of_lt_of_le (h.F_lt k hk) hc.size)
theorem PG.far {w w' : World} {G : Gr} {X : Gx} (h : PG w G X F) (hc : Ch F w w') : PG w' G X F :=
  h.to hc (fun _ h _ => h) (fun _ _ h => h) (fun k hk => Nat.lt_of_lt_of_le (h.F_lt k hk) hc.size)
theorem PG.mono {w : World} {G : Gr} {X : Gx} (h : PG w G X F) (hs : ∀ k, F' k → F k) : PG w G X F' :=
  h.to (Ch.refl (fun _ => False) w) (fun _ h => h.elim) (fun k _ => hs k) (fun k hk => h.F_lt k (hs k hk))
theorem PG.grow {w W : World} {G : Gr} {X : Gx} (h : PG w G X F) (hc : Ch (fun _ => False) w W) : PG W G X (Fg F w W) :=
  h.to hc (fun _ h => h.elim) (fun k hl hk => by
    rcases hk with hk | hk
    · exact hk
    · omega) (fun k hk => by
    rcases hk with hk | hk
    · exact Nat.lt_of_lt_of_le (h.F_lt k hk) hc.size
    · exact hk.2)
/-- One node's block is another one now. -/
theorem PG.set {w w' : World} {G : Gr} {X : Gx} (h : PG w G X F) {i : Nat} (hi : i < G.n) (hc : Ch (fun k => k = X.pi i) w w') (hn : NodeM w' G X F i) : PG w' G X F := by
  have hO : Tg w (fun k => k = X.pi i) := h.tg.sub (fun k e => .inl ⟨i, hi, e.symm⟩)
  refine ⟨fun k hk => Nat.lt_of_lt_of_le (h.F_lt k hk) hc.size, h.pi_inj, h.ps_inj, h.root_lt, h.root_rep, h.root_one, h.root_kind, fun j hj => ?_, fun r b hr => (h.rest r b hr).keep hc hO (fun e => ?_), h.ps_lt, h.ps_W, h.ps_no, h.mb⟩
  · by_cases e : j = i
    · subst e; exact hn
    · exact (h.node j hj).keep hc hO (fun e2 => e (h.pi_inj j i hj hi e2))
  · rw [e] at hr
    exact h.apart hi hr
/-- One row variable's block is another one now. -/
theorem PG.setR {w w' : World} {G : Gr} {X : Gx} (h : PG w G X F) {r b : Nat} (hr : X.ps r = some b) (hc : Ch (fun k => k = b) w w') (hn : RestM w' G X F r b) : PG w' G X F := by
  have hO : Tg w (fun k => k = b) := h.tg.sub (fun k e => .inr ⟨r, by rw [e]; exact hr⟩)
  refine ⟨fun k hk => Nat.lt_of_lt_of_le (h.F_lt k hk) hc.size, h.pi_inj, h.ps_inj, h.root_lt, h.root_rep, h.root_one, h.root_kind, fun j hj => (h.node j hj).keep hc hO (fun e => ?_), fun s c hs => ?_, h.ps_lt, h.ps_W, h.ps_no, h.mb⟩
  · exact h.apart hj (r := r) (by rw [e]; exact hr)
  · by_cases e : s = r
    · subst e
      rw [hr] at hs
      cases hs
      exact hn
    · exact (h.rest s c hs).keep hc hO (fun e2 => e (h.ps_inj s r b (by rw [← e2]; exact hs) hr))
/-- What is no node and no row variable stands. -/
theorem PG.stay {w w' : World} {G : Gr} {X : Gx} (h : PG w G X F) (hc : Ch (X.own G.n) w w') {k : Nat} {cs : Array Value} {T : TypeId} {fr : Nat × Nat} (hk : w.heap[k]? = some (.cells cs T fr)) (h1 : T ≠ 78) (h2 : T ≠ 83) : w'.heap[k]? = some (.cells cs T fr) := by
  refine (hc.same k (Array.getElem?_eq_some_iff.1 hk).1 (fun ho => ?_)).trans hk
  rcases h.tg k _ _ _ ho hk with e | e
  · exact h1 e
  · exact h2 e
/-- What a node has become stands for itself. -/
theorem PG.root_root {w : World} {G : Gr} {X : Gx} (h : PG w G X F) {i : Nat} (hi : i < G.n) : X.root (X.root i) = X.root i := h.root_one _ _ (h.root_lt i hi) hi (h.root_rep i hi)
theorem PG.rep_root {w : World} {G : Gr} {X : Gx} (h : PG w G X F) {i j : Nat} (hi : i < G.n) (hj : j < G.n) : X.root i = X.root j ↔ G.rep i = G.rep j :=
  ⟨fun e => by rw [← h.root_rep i hi, ← h.root_rep j hj, e], h.root_one i j hi hj⟩
theorem PG.kind_root {w : World} {G : Gr} {X : Gx} (h : PG w G X F) (hG : G.OK) {i : Nat} (hi : i < G.n) : G.kind (X.root i) = G.kind (G.rep i) := by
  by_cases e : G.kind (G.rep i) = 0
  · rw [e]
    rcases Nat.eq_zero_or_pos (G.kind (X.root i)) with h0 | h0
    · exact h0
    · have := hG.kind_rep _ (h.root_lt i hi) (by omega)
      rw [h.root_rep i hi, e] at this
      omega
  · rw [h.root_kind i hi e]
end Go.Proofs.Ytcogpcalghfghaa
