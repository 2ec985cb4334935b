import Derived.Test.YtejciampbnfbhaaMJd
import Derived.Test.YtejciampbnfbhaaHw
set_option linter.unusedVariables false
set_option linter.unusedSimpArgs false
set_option maxRecDepth 100000
set_option maxHeartbeats 16000000
namespace Go.Proofs.Ytejciampbnfbhaa
open Go.RowKit Ie
structure Cc where
 c : Nat
 b : Nat
 ov : Value
 F : Nat → Prop
structure Ck where
 G : Gg
 ev : Value
def Ck.own (K : Ck) (Q : Cc) (k : Nat) : Prop := K.G.own Q.b k ∨ k = Q.c ∨ K.ev.ownBlock = some k
abbrev Env := List (En × Value × Value)
abbrev nmC (p : En × Value × Value) : List Value := [str p.1.name, .int .i64 p.1.t, .bool p.1.all, p.2.1, p.2.2, .bool p.1.opn]
def nams (es : Env) : List Value := es.flatMap nmC
abbrev nmV (p : En × Value × Value) : Value := .agg #[str p.1.name, .int .i64 p.1.t, .bool p.1.all, p.2.1, p.2.2, .bool p.1.opn]
structure NamOK (w : World) (O : Nat → Prop) (x : En × Value × Value) : Prop where
 m1 : ∃ o, x.2.1 = .map o
 m2 : ∃ o, x.2.2 = .map o
 gen : x.1.all = true → ∃ t r, x.2.1 = .map (some t) ∧ x.2.2 = .map (some r) ∧ SM w t x.1.tv ∧ SM w r x.1.rv ∧ ¬ O t ∧ ¬ O r
def OpAt (w : World) (g i : Nat) (o : Opr) : Prop := ∃ os az os2 az2 n, w.cell? ⟨g, i, none⟩ = some (str o.name) ∧ El w g (i + 1) o.ti.kind o.ti.num o.ti.row os az ∧ IsT w o.ti os az ∧ El w g (i + 6) o.to.kind o.to.num o.to.row os2 az2 ∧ IsT w o.to os2 az2 ∧ w.cell? ⟨g, i + 11, none⟩ = some (.int .i64 n)
def OpsIn (w : World) (v : Value) (ops : List Opr) : Prop := ∃ a c, v = .slice a ops.length c ∧ (0 < ops.length → ∃ g, a = some ⟨g, 0, none⟩ ∧ ∀ i o, ops[i]? = some o → OpAt w g (i * 12) o)
structure CM (w : World) (Q : Cc) (K : Ck) (es : Env) (ops : List Opr) (e : E) : Prop where
 blk : w.heap[Q.c]? = some (.cells #[.pointer (some ⟨Q.b, 0, none⟩), K.ev, Q.ov, .int .i64 0, .int .i64 0] 66 (0, 0))
 ge : GE w Q.b K.G e
 env : w.ownsRow 0 73 6 K.ev es.length (nams es)
 nc : ¬ K.G.own Q.b Q.c
 ne : ∀ k, K.ev.ownBlock = some k → ¬ K.G.own Q.b k ∧ k ≠ Q.c
 nam : ∀ x ∈ es, NamOK w (K.own Q) x
 ops : ∀ w' : World, (∀ k, k < w.heap.size → ¬ K.own Q k → w'.heap[k]? = w.heap[k]?) → OpsIn w' Q.ov ops
 tf : ∀ k, Q.F k → k < w.heap.size ∧ ¬ K.own Q k
def CS (w : World) (Q : Cc) (K : Ck) (es : Env) (ops : List Opr) (w' : World) (e' : E) : Prop := ∃ K', CM w' Q K' es ops e' ∧ Ch (K.own Q) w w' ∧ More w (K.own Q) (K'.own Q)
theorem NamOK.ch {w w' : World} {O O' : Nat → Prop} {x : En × Value × Value} (h : NamOK w O x) (hc : Ch O w w') (hm : More w O O') : NamOK w' O' x :=
 ⟨h.m1, h.m2, fun ha => by
  obtain ⟨t, r, h1, h2, h3, h4, h5, h6⟩ := h.gen ha
  exact ⟨t, r, h1, h2, h3.ch hc h5, h4.ch hc h6, hm.not h5 h3.lt, hm.not h6 h4.lt⟩⟩
theorem CM.lt {w : World} {Q : Cc} {K : Ck} {es : Env} {ops : List Opr} {e : E} (h : CM w Q K es ops e) {k : Nat} (hk : K.own Q k) : k < w.heap.size := by
 rcases hk with hk | rfl | hk
 ·obtain ⟨d, _, h2⟩ := h.ge; exact h2.gm.lt hk
 ·exact (Array.getElem?_eq_some_iff.1 h.blk).1
 ·exact ownsRow_lt h.env hk
theorem CM.step {w w' : World} {Q : Cc} {K K' : Ck} {es : Env} {ops : List Opr} {e e' : E} (h : CM w Q K es ops e) (hc : Ch (K.own Q) w w') (hm : More w (K.own Q) (K'.own Q))
  (blk : w'.heap[Q.c]? = some (.cells #[.pointer (some ⟨Q.b, 0, none⟩), K'.ev, Q.ov, .int .i64 0, .int .i64 0] 66 (0, 0))) (ge : GE w' Q.b K'.G e') (env : w'.ownsRow 0 73 6 K'.ev es.length (nams es)) (nc : ¬ K'.G.own Q.b Q.c) (ne : ∀ k, K'.ev.ownBlock = some k → ¬ K'.G.own Q.b k ∧ k ≠ Q.c) : CM w' Q K' es ops e' :=
 ⟨blk, ge, env, nc, ne, fun x hx => (h.nam x hx).ch hc hm, fun w2 h2 => h.ops w2 fun k hk hn => (h2 k (Nat.lt_of_lt_of_le hk hc.size) (hm.not hn hk)).trans (hc.same k hk hn), fun k hk => by
  obtain ⟨h1, h2⟩ := h.tf k hk
  exact ⟨Nat.lt_of_lt_of_le h1 hc.size, hm.not h2 h1⟩⟩
theorem CM.quiet {w w' : World} {Q : Cc} {K : Ck} {es : Env} {ops : List Opr} {e : E} (h : CM w Q K es ops e) (hc : Ch (fun _ => False) w w') : CM w' Q K es ops e :=
 h.step (hc.mono (fun _ h => h.elim)) (fun _ h => .inl h) ((hc.same _ (h.lt (.inr (.inl rfl))) (fun h => h)).trans h.blk) (h.ge.quiet hc) (ownsRow_keep h.env (fun k hk => hc.same k (ownsRow_lt h.env hk) (fun h => h))) h.nc h.ne
theorem CM.graph {w w' : World} {Q : Cc} {K : Ck} {es : Env} {ops : List Opr} {e e' : E} (h : CM w Q K es ops e) (hg : GT w Q.b K.G w' e') : CS w Q K es ops w' e' := by
 obtain ⟨G', h1, h2, h3⟩ := hg
 have hc : Ch (K.own Q) w w' := h2.mono (fun _ h => .inl h)
 have hm : More w (K.own Q) (Ck.own ⟨G', K.ev⟩ Q) := fun k hk => by
  rcases hk with hk | hk
  ·rcases h3 k hk with h | h
   ·exact .inl (.inl h)
   ·exact .inr h
  ·exact .inl (.inr hk)
 exact ⟨⟨G', K.ev⟩, h.step hc hm ((h2.same _ (h.lt (.inr (.inl rfl))) h.nc).trans h.blk) h1 (ownsRow_keep h.env (fun k hk => h2.same k (ownsRow_lt h.env hk) (h.ne k hk).1)) (h3.not h.nc (h.lt (.inr (.inl rfl)))) (fun k hk => ⟨h3.not (h.ne k hk).1 (ownsRow_lt h.env hk), (h.ne k hk).2⟩), hc, hm⟩
theorem CS.refl {w : World} {Q : Cc} {K : Ck} {es : Env} {ops : List Opr} {e : E} (h : CM w Q K es ops e) : CS w Q K es ops w e := ⟨K, h, Ch.refl _ _, fun _ h => .inl h⟩
theorem CS.quiet {w w1 w2 : World} {Q : Cc} {K : Ck} {es : Env} {ops : List Opr} {e : E} (h : CS w Q K es ops w1 e) (hc : Ch (fun _ => False) w1 w2) : CS w Q K es ops w2 e := by
 obtain ⟨K', h1, h2, h3⟩ := h
 exact ⟨K', h1.quiet hc, h2.trans hc (fun _ h => h.elim), h3⟩
theorem CS.after {w w1 w2 : World} {Q : Cc} {K K1 : Ck} {es : Env} {ops : List Opr} {e : E} (hc : Ch (K.own Q) w w1) (hm : More w (K.own Q) (K1.own Q)) (h : CS w1 Q K1 es ops w2 e) : CS w Q K es ops w2 e := by
 obtain ⟨K2, h1, h2, h3⟩ := h
 exact ⟨K2, h1, hc.two h2 hm, hm.two h3 hc.size⟩
theorem CM.cells {w : World} {Q : Cc} {K : Ck} {es : Env} {ops : List Opr} {e : E} (h : CM w Q K es ops e) : w.cell? ⟨Q.c, 0, none⟩ = some (.pointer (some ⟨Q.b, 0, none⟩)) ∧ w.cell? ⟨Q.c, 1, none⟩ = some K.ev ∧ w.cell? ⟨Q.c, 2, none⟩ = some Q.ov ∧ w.cell? ⟨Q.c, 3, none⟩ = some (.int .i64 0) ∧ w.cell? ⟨Q.c, 4, none⟩ = some (.int .i64 0) := by
 have hb := h.blk
 refine ⟨?_, ?_, ?_, ?_, ?_⟩ <;> (unfold World.cell?; rw [hb]; rfl)
theorem CM.frozen {w : World} {Q : Cc} {K : Ck} {es : Env} {ops : List Opr} {e : E} (h : CM w Q K es ops e) (i : Nat) : w.frozen? ⟨Q.c, i, none⟩ = false := by
 have hb := h.blk
 unfold World.frozen?
 rw [hb]
 simp
theorem nams_len (es : Env) : (nams es).length = es.length * 6 := by
 induction es with
 | nil => rfl
 | cons x r ih => simp only [nams, List.flatMap_cons, List.length_append] at ih ⊢; rw [ih]; simp [nmC]; omega
theorem nams_at : ∀ {es : Env} {i j : Nat} {x : En × Value × Value} {u : Value}, es[i]? = some x → j < 6 → (nmC x)[j]? = some u → (nams es)[i * 6 + j]? = some u
 | [], _, _, _, _, h, _, _ => by simp at h
 | y :: r, 0, j, x, u, h, hj, hu => by
  obtain rfl : y = x := by simpa using h
  simp only [nams, List.flatMap_cons, Nat.zero_mul, Nat.zero_add]
  rw [List.getElem?_append_left (by simp [nmC]; omega)]
  exact hu
 | y :: r, i + 1, j, x, u, h, hj, hu => by
  have := nams_at (es := r) (i := i) (by simpa using h) hj hu
  simp only [nams, List.flatMap_cons]
  rw [List.getElem?_append_right (by simp [nmC]; omega), show (i + 1) * 6 + j - (nmC y).length = i * 6 + j from by simp [nmC]; omega]
  exact this
theorem CM.at {w : World} {Q : Cc} {K : Ck} {es : Env} {ops : List Opr} {e : E} (h : CM w Q K es ops e) {i : Nat} {x : En × Value × Value} (hx : es[i]? = some x) : ∃ g cap, K.ev = .slice (some ⟨g, 0, none⟩) es.length cap ∧ i < es.length ∧
  w.cell? ⟨g, i * 6, none⟩ = some (str x.1.name) ∧ w.cell? ⟨g, i * 6 + 1, none⟩ = some (.int .i64 x.1.t) ∧ w.cell? ⟨g, i * 6 + 2, none⟩ = some (.bool x.1.all) ∧ w.cell? ⟨g, i * 6 + 3, none⟩ = some x.2.1 ∧ w.cell? ⟨g, i * 6 + 4, none⟩ = some x.2.2 ∧ w.cell? ⟨g, i * 6 + 5, none⟩ = some (.bool x.1.opn) := by
 have hi := (List.getElem?_eq_some_iff.1 hx).1
 obtain ⟨a, cap, e1, h0, _⟩ := row_slice h.env
 rcases h0 with h0 | ⟨g, rfl⟩
 ·omega
 ·have hr := h.env
  rw [e1] at hr
  refine ⟨g, cap, e1, hi, ?_, ?_, ?_, ?_, ?_, ?_⟩
  ·exact row_cell hr _ _ (nams_at (j := 0) hx (by omega) rfl)
  ·exact row_cell hr _ _ (nams_at (j := 1) hx (by omega) rfl)
  ·exact row_cell hr _ _ (nams_at (j := 2) hx (by omega) rfl)
  ·exact row_cell hr _ _ (nams_at (j := 3) hx (by omega) rfl)
  ·exact row_cell hr _ _ (nams_at (j := 4) hx (by omega) rfl)
  ·exact row_cell hr _ _ (nams_at (j := 5) hx (by omega) rfl)
theorem nams_snoc (es : Env) (x : En × Value × Value) : nams (es ++ [x]) = nams es ++ nmC x := by simp [nams, nmC]
theorem Try.infoNam : (Try.prog.info? 73).map (fun i => (i.zero, i.size, i.bytes)) = some (some (.agg #[.string ⟨#[]⟩, .int .i64 0, .bool false, .map none, .map none, .bool false]), 6, 56) := by kernel_rfl
theorem new_six (w : World) (a b c d e f : Value) (T : TypeId) : ∀ j u, ([a, b, c, d, e, f] : List Value)[j]? = some u → (w.alloc (.cells #[a, b, c, d, e, f] T)).cell? ((⟨w.heap.size, 0, none⟩ : Addr).add j) = some u := by
 intro j u hj
 have hb := World.alloc_heap_new w (.cells #[a, b, c, d, e, f] T)
 rw [at_plain]
 unfold World.cell?
 rw [hb]
 have : j = 0 ∨ j = 1 ∨ j = 2 ∨ j = 3 ∨ j = 4 ∨ j = 5 := by
  have := (List.getElem?_eq_some_iff.1 hj).1
  simp at this
  omega
 rcases this with rfl | rfl | rfl | rfl | rfl | rfl <;> (simp at hj; subst hj; rfl)
theorem CM.join {w w1 w2 : World} {Q : Cc} {K : Ck} {es : Env} {ops : List Opr} {e : E} {x : En × Value × Value} {v' : Value} (h : CM w Q K es ops e) (hq : Ch (fun _ => False) w w1) (hx : NamOK w (K.own Q) x) (hrow : w2.ownsRow 0 73 6 v' (es.length + 1) (nams es ++ nmC x)) (hgrow : w1.grownBy w2 K.ev.ownBlock)
  (hblk : v'.ownBlock = K.ev.ownBlock ∨ v'.ownBlock = some w1.heap.size) : CS w Q K (es ++ [x]) ops (w2.setCell ⟨Q.c, 1, none⟩ v') e := by
 have h1 := h.quiet hq
 have hch : Ch (fun k => K.ev.ownBlock = some k) w1 w2 := Ch.grown hgrow (fun k hk => hk)
 have hvb : ∀ k, v'.ownBlock = some k → K.ev.ownBlock = some k ∨ w1.heap.size ≤ k := fun k hk => by
  rcases hblk with e1 | e1
  ·exact .inl (e1 ▸ hk)
  ·rw [e1] at hk
   have := Option.some.inj hk; exact .inr (by omega)
 have hc1 := h1.lt (.inr (.inl rfl))
 have hvc : ∀ k, v'.ownBlock = some k → k ≠ Q.c := fun k hk e1 => by
  rcases hvb k hk with h2 | h2
  ·exact (h1.ne k h2).2 e1
  ·omega
 have hset : ∀ k, k ≠ Q.c → (w2.setCell ⟨Q.c, 1, none⟩ v').heap[k]? = w2.heap[k]? := fun k hk => Below.heap_setCell w2 _ v' k hk
 have hcb : w2.heap[Q.c]? = w1.heap[Q.c]? := hch.same _ hc1 (fun hk => (h1.ne _ hk).2 rfl)
 have hc : Ch (K.own Q) w1 (w2.setCell ⟨Q.c, 1, none⟩ v') := (hch.mono (fun k hk => .inr (.inr hk))).trans (Ch.setCell (O := K.own Q) w2 ⟨Q.c, 1, none⟩ v' (.inr (.inl rfl))) (fun _ h => .inl h)
 have hm : More w1 (K.own Q) (Ck.own ⟨K.G, v'⟩ Q) := fun k hk => by
  rcases hk with hk | hk | hk
  ·exact .inl (.inl hk)
  ·exact .inl (.inr (.inl hk))
  ·exact (hvb k hk).imp (fun h => .inr (.inr h)) id
 have hg : GE (w2.setCell ⟨Q.c, 1, none⟩ v') Q.b K.G e := by
  obtain ⟨d, g1, g2⟩ := h1.ge
  refine ⟨d, g1, g2.apart (O := fun k => k = Q.c ∨ K.ev.ownBlock = some k) ((hch.mono (fun k hk => .inr hk)).trans (Ch.setCell (O := fun k => k = Q.c ∨ K.ev.ownBlock = some k) w2 ⟨Q.c, 1, none⟩ v' (.inl rfl)) (fun _ h => .inl h)) (fun k hk ho => ?_) (fun i u k hu hk ho => ?_)⟩
  ·rcases ho with rfl | ho
   ·exact h1.nc hk
   ·exact (h1.ne k ho).1 hk
  ·rcases ho with rfl | ho
   ·exact (out_cells g2 h1.blk (by decide) h1.nc).2 i u hu hk
   ·obtain ⟨cs, fz, hb⟩ := row_blk h1.env ho
    exact (out_cells g2 hb (by decide) (h1.ne k ho).1).2 i u hu hk
 refine ⟨⟨K.G, v'⟩, ⟨?_, hg, ?_, h1.nc, fun k hk => ⟨?_, hvc k hk⟩, fun y hy => ?_, ?_, ?_⟩, (hq.mono (fun _ h => h.elim)).two hc (fun _ h => .inl h), fun k hk => (hm k hk).imp id (fun h => Nat.le_trans hq.size h)⟩
 ·rw [blk_set (hcb.trans h1.blk)]
  simp
 ·rw [nams_snoc, List.length_append, List.length_singleton]
  exact ownsRow_keep hrow (fun k hk => hset k (hvc k hk))
 ·rcases hvb k hk with h2 | h2
  ·exact (h1.ne k h2).1
  ·intro h3
   have := h1.lt (.inl h3); omega
 ·rcases List.mem_append.1 hy with hy | hy
  ·exact (h1.nam y hy).ch hc hm
  ·obtain rfl : y = x := by simpa using hy
   have hx1 : NamOK w1 (K.own Q) y := hx.ch (hq.mono (fun _ h => h.elim)) (fun _ h => .inl h); exact hx1.ch hc hm
 ·intro w3 h3
  exact h1.ops w3 fun k hk hn => (h3 k (Nat.lt_of_lt_of_le hk hc.size) (hm.not hn hk)).trans (hc.same k hk hn)
 ·intro k hk
  obtain ⟨h2, h3⟩ := h1.tf k hk
  exact ⟨Nat.lt_of_lt_of_le h2 hc.size, hm.not h3 h2⟩
theorem CM.drop {w : World} {Q : Cc} {K : Ck} {es xs : Env} {ops : List Opr} {e : E} (h : CM w Q K (es ++ xs) ops e) {g n cap : Nat} (hv : K.ev = .slice (some ⟨g, 0, none⟩) n cap) : CS w Q K es ops (w.setCell ⟨Q.c, 1, none⟩ (.slice (some ⟨g, 0, none⟩) es.length cap)) e := by
 have hset : ∀ k, k ≠ Q.c → (w.setCell ⟨Q.c, 1, none⟩ (.slice (some ⟨g, 0, none⟩) es.length cap)).heap[k]? = w.heap[k]? := fun k hk => Below.heap_setCell w _ _ k hk
 have hc : Ch (K.own Q) w (w.setCell ⟨Q.c, 1, none⟩ (.slice (some ⟨g, 0, none⟩) es.length cap)) := Ch.setCell w _ _ (.inr (.inl rfl))
 have hob : (Value.slice (some ⟨g, 0, none⟩) es.length cap).ownBlock = K.ev.ownBlock := by rw [hv]; rfl
 have hm : More w (K.own Q) (Ck.own ⟨K.G, .slice (some ⟨g, 0, none⟩) es.length cap⟩ Q) := fun k hk => by
  rcases hk with hk | hk | hk
  ·exact .inl (.inl hk)
  ·exact .inl (.inr (.inl hk))
  ·exact .inl (.inr (.inr (hob ▸ hk)))
 have hg : GE (w.setCell ⟨Q.c, 1, none⟩ (.slice (some ⟨g, 0, none⟩) es.length cap)) Q.b K.G e := by
  obtain ⟨d, g1, g2⟩ := h.ge
  exact ⟨d, g1, g2.apart (O := fun k => k = Q.c) (Ch.setCell w _ _ rfl) (fun k hk ho => h.nc (ho ▸ hk)) (fun i u k hu hk ho => (out_cells g2 h.blk (by decide) h.nc).2 i u hu (ho ▸ hk))⟩
 refine ⟨⟨K.G, .slice (some ⟨g, 0, none⟩) es.length cap⟩, ⟨?_, hg, ?_, h.nc, fun k hk => h.ne k (hob ▸ hk), fun y hy => (h.nam y (List.mem_append.2 (.inl hy))).ch hc hm, ?_, ?_⟩, hc, hm⟩
 ·rw [blk_set h.blk]
  simp
 ·have hr : w.ownsRow 0 73 6 (.slice (some ⟨g, 0, none⟩) es.length cap) es.length (nams es) := by
   have hr0 := h.env; rw [hv] at hr0; obtain ⟨hl, hr0⟩ := hr0; refine ⟨nams_len es, .inr ?_⟩
   rcases hr0 with ⟨h1, _⟩ | ⟨g', cap', cur, e1, h2, h3, h4, h5, h6, h7⟩
   ·cases h1
   ·obtain ⟨⟨rfl, _, _⟩, rfl, rfl⟩ := by simpa only [Value.slice.injEq, Option.some.injEq, Addr.mk.injEq] using e1
    refine ⟨_, _, cur, rfl, Nat.zero_le _, h3, by simp only [List.length_append] at h4; omega, h5, h6, ?_⟩; have h8 := congrArg (List.take (es.length * 6)) h7; rw [List.take_take, show nams (es ++ xs) = nams es ++ nams xs from by simp [nams], List.take_left' (nams_len es), List.length_append, Nat.min_eq_left (by omega)] at h8; exact h8
  exact ownsRow_keep hr (fun k hk => hset k (fun e1 => (h.ne k (hob ▸ hk)).2 e1))
 ·intro w3 h3
  exact h.ops w3 fun k hk hn => (h3 k (Nat.lt_of_lt_of_le hk hc.size) (hm.not hn hk)).trans (hc.same k hk hn)
 ·intro k hk
  obtain ⟨h2, h3⟩ := h.tf k hk
  exact ⟨Nat.lt_of_lt_of_le h2 hc.size, hm.not h3 h2⟩
theorem CM.vm {w : World} {Q : Cc} {K : Ck} {es : Env} {ops : List Opr} {e : E} (h : CM w Q K es ops e) : GE w Q.b K.G e ∧ ∃ cs fz, w.heap[Q.c]? = some (.cells cs 66 fz) ∧ w.cell? ⟨Q.c, 0, none⟩ = some (.pointer (some ⟨Q.b, 0, none⟩)) := ⟨h.ge, _, _, h.blk, h.cells.1⟩
end Go.Proofs.Ytejciampbnfbhaa

namespace Go.Proofs.Ytejciampbnfbhaa
open Go.RowKit Ie
abbrev isI (t r : Nat) : Nat → Prop := fun j => j = t ∨ j = r
theorem Ch.iter {w w5 wr : World} {t R : Nat} (h : Ch (fun _ => False) w w5) (k : Ch (isI t R) w5 wr) (hR : w.heap.size ≤ R) : Ch (fun j => j = t) w wr := (h.mono (fun _ h => h.elim)).trans k (fun i hi => hi.elim .inl (fun e => .inr (e ▸ hR)))
abbrev xnB (p : En × Value × Value) : Obj := .cells #[str p.1.name, .int .i64 p.1.t, .bool p.1.all, p.2.1, p.2.2, .bool p.1.opn] 73
theorem al_size (w : World) (o : Obj) : (w.alloc o).heap.size = w.heap.size + 1 := by simp
theorem SM.al {w : World} {m : Nat} {S : List Int} (h : SM w m S) (o : Obj) : SM (w.alloc o) m S := h.quiet (al_ch w o)
theorem MS.new {w w' : World} {c b : Nat} {G : Gg} {e : E} (hv : VM w c b G e) {s t r : Nat} (hs : SM w' s []) (ht : SM w' t []) (hr : SM w' r []) (h1 : w.heap.size ≤ s) (h2 : w.heap.size ≤ t) (h3 : w.heap.size ≤ r) (st : s ≠ t) (sr : s ≠ r) (tr : t ≠ r) : MS w' b G s t r ([], [], []) := by
 obtain ⟨d, _, g2⟩ := hv.ge
 have hlt : ∀ k, w.heap.size ≤ k → ¬ G.own b k := fun k hk ho => by have := g2.gm.lt ho; omega
 exact ⟨hs, ht, hr, st, sr, tr, hlt _ h1, hlt _ h2, hlt _ h3⟩
theorem box_cells {w : World} {n : Nat} {x : En × Value × Value} (h : w.heap[n]? = some (xnB x)) : w.cell? ⟨n, 0, none⟩ = some (str x.1.name) ∧ w.cell? ⟨n, 1, none⟩ = some (.int .i64 x.1.t) ∧ w.cell? ⟨n, 2, none⟩ = some (.bool x.1.all) ∧ w.cell? ⟨n, 3, none⟩ = some x.2.1 ∧ w.cell? ⟨n, 4, none⟩ = some x.2.2 ∧ w.cell? ⟨n, 5, none⟩ = some (.bool x.1.opn) := by
 refine ⟨?_, ?_, ?_, ?_, ?_, ?_⟩ <;> (unfold World.cell?; rw [h]; rfl)
theorem Mine_any {c b f : Nat} {w : World} {G : Gg} {e : E} {s t r mt mr : Nat} {S p : Sets} {x : En} (hv : VM w c b G e) (hm : MS w b G s t r S) (ht : SM w mt x.tv) (hr : SM w mr x.rv) (ht1 : ¬ isM s t r mt) (hr1 : ¬ isM s t r mr) (hp : Ie.vars f f e x.t ([], [], []) = some p) :
  Calls Try.prog 81 #[.pointer (some ⟨c, 0, none⟩), .int .i64 x.t, .map (some s), .map (some t), .map (some r), nmV (x, .map (some mt), .map (some mr))] w fun en w' => en = .returned (.tuple #[]) ∧
   MS w' b G s t r (S.1, p.2.1.filter (fun k => !x.tv.contains k) ++ S.2.1, p.2.2.filter (fun k => !x.rv.contains k) ++ S.2.2) ∧ Ch (isM s t r) w w' := by
 have hmk := fun w' : World => run_makeMap_plain (P := Try.prog) (w := w') 71
 have hW1 := al_ch w (xnB (x, .map (some mt), .map (some mr)))
 have s1 := SM.new (w.alloc (xnB (x, .map (some mt), .map (some mr))))
 have s2 := SM.new ((w.alloc (xnB (x, .map (some mt), .map (some mr)))).alloc (.map #[] 0))
 have s3 := SM.new (((w.alloc (xnB (x, .map (some mt), .map (some mr)))).alloc (.map #[] 0)).alloc (.map #[] 0))
 have s13 := hid ((s1.al (.map #[] 0)).al (.map #[] 0))
 have s23 := hid (s2.al (.map #[] 0))
 simp only [al_size] at s13 s23 s3
 have hq3 := hid (((hW1.al (.map #[] 0)).al (.map #[] 0)).al (.map #[] 0))
 have hb3 : Hid (((((w.alloc (xnB (x, .map (some mt), .map (some mr)))).alloc (.map #[] 0)).alloc (.map #[] 0)).alloc (.map #[] 0)).heap[w.heap.size]? = some (xnB (x, .map (some mt), .map (some mr)))) := blk_alloc (blk_alloc (blk_alloc (World.alloc_heap_new w _)))
 have HV := Vars_any c b f f (hv.quiet hq3.out) (MS.new hv s3 s13.out s23.out (by omega) (by omega) (by omega) (by omega) (by omega) (by omega)) hp
 clear s1 s2 s3 hW1
 replace hv := hid hv
 replace hm := hid hm
 replace ht := hid ht
 replace hr := hid hr
 go_enter Try.func81, Try.ntmps81
 go_upto_region 4 with (go_at_call 56; refine HV.mono ?_; clear HV; rintro e w4 ⟨rfl, hm4, hc4⟩)
 have htl := hm.out.mt.lt
 have hrl := hm.out.mr.lt
 have hsl := hm.out.ms.lt
 have hxl := ht.out.lt
 have hyl := hr.out.lt
 have za : w.heap.size + 3 < w4.heap.size := Nat.lt_of_lt_of_le (by simp) hc4.size
 have hBa : Hid (w4.heap[w.heap.size]? = some (xnB (x, .map (some mt), .map (some mr)))) := (hc4.same _ (by simp; omega) (fun h => by rcases h with h | h | h <;> omega)).trans hb3.out
 have hq4 : Hid (Ch (fun _ => False) w w4) := hid (hq3.out.trans hc4 (fun k h => .inr (by rcases h with h | h | h <;> omega)))
 have hTa := hid (hm.out.mt.quiet hq4.out)
 have hTr := hid (hm.out.mr.quiet hq4.out)
 have hXa := hid (ht.out.quiet hq4.out)
 have hXr := hid (hr.out.quiet hq4.out)
 have hAa := hid hm4.mt
 clear hc4 hb3 hq3
 replace hm4 := hid hm4
 obtain ⟨w5, n5, hrg, hit5a, hc5a⟩ := run_rangeS hAa.out
 replace hit5a := hid hit5a
 replace hc5a := hid hc5a
 go_wp2_with fail
 clear hrg
 go_loopg [14] (n5 + 1) (fun q v wr => ∃ m D, q = m + 1 ∧ Hid (It wr w4.heap.size (w.heap.size + 1) p.2.1 m D) ∧ Hid (SM wr t (D.filter (fun k => !x.tv.contains k) ++ S.2.1)) ∧ Hid (Ch (isI t w4.heap.size) w5 wr))
 case atStart => exact ⟨n5, [], rfl, hit5a.out, by simpa [Hid] using hTa.out.quiet hc5a.out, Ch.refl _ _⟩
 case round =>
  obtain ⟨m, D, rfl, hit, hsm, hch⟩ := hrel
  have h0r := hid (Ch.iter hc5a.out hch.out (Nat.le_refl _))
  have hbr : Hid (wr.heap[w.heap.size]? = some (xnB (x, .map (some mt), .map (some mr)))) := (h0r.out.same _ (by omega) (fun e => by omega)).trans hBa.out
  have htr := hid (hXa.out.ch h0r.out (fun e => ht1 (.inr (.inl e))))
  rcases hit.out.next 0 with ⟨hm0, hnx, hD⟩ | ⟨k, vv, w6, m', hnx, hen, hlt, hit6, hc6, hkS⟩
  ·clear hm0
   replace hD := hid hD; have hzt : Hid (Ch (isI t r) w wr) := hid ((hq4.out.mono (fun _ h => h.elim)).trans (h0r.out.mono (O1 := isI t r) (fun _ e => .inl e)) (fun _ h => .inl h)); have hAb := hid (hm4.out.mr.ch h0r.out (fun e => by omega)); have hTb := hid (hTr.out.ch h0r.out (fun e => hm.out.tr e.symm)); have hXb := hid (hXr.out.ch h0r.out (fun e => hr1 (.inr (.inl e)))); have hBb := hbr; have hst := hsm; have hDt := hD; have zb : w.heap.size + 3 < wr.heap.size := Nat.lt_of_lt_of_le za h0r.out.size; clear hit hsm hD htr hbr; generalize wr = wz at *; clear h0r hch; obtain ⟨w9, n9, hrg, hit5b, hc5b⟩ := run_rangeS hAb.out; replace hit5b := hid hit5b; replace hc5b := hid hc5b
   go_wp2_with fail
   clear hrg
   go_loopg [15] (n9 + 1) (fun q v wr => ∃ m D, q = m + 1 ∧ Hid (It wr wz.heap.size (w.heap.size + 1 + 1) p.2.2 m D) ∧ Hid (SM wr r (D.filter (fun k => !x.rv.contains k) ++ S.2.2)) ∧ Hid (Ch (isI r wz.heap.size) w9 wr))
   case atStart => exact ⟨n9, [], rfl, hit5b.out, by simpa [Hid] using hTb.out.quiet hc5b.out, Ch.refl _ _⟩
   case round =>
    obtain ⟨m, D, rfl, hit, hsm, hch⟩ := hrel; have h0r := hid (Ch.iter hc5b.out hch.out (Nat.le_refl _)); have hbr : Hid (wr.heap[w.heap.size]? = some (xnB (x, .map (some mt), .map (some mr)))) := (h0r.out.same _ (by omega) (fun e => by omega)).trans hBb.out; have htr := hid (hXb.out.ch h0r.out (fun e => hr1 (.inr (.inr e))))
    rcases hit.out.next 0 with ⟨hm0, hnx, hD⟩ | ⟨k, vv, w6, m', hnx, hen, hlt, hit6, hc6, hkS⟩
    ·clear hm0
     replace hD := hid hD
     go_wp2_with fail
     (first | go_end0 | ((try simp only [Exit.inBlock, Exit.then]); refine bodyPost_ret (results_none rfl _ _ _) rfl ?_))
     have hz := (hzt.out.trans (h0r.out.mono (O1 := isI t r) (fun _ e => .inr e)) (fun _ h => .inl h)); have hzw : Ch (isM s t r) w wr := hz.mono (fun _ h => .inr h); exact ⟨by first | rfl | simp, ⟨hm.out.ms.ch hz (fun h => h.elim hm.out.st hm.out.sr), (hst.out.ch h0r.out (fun e => hm.out.tr e)).of (fun k => by simp only [List.mem_append, List.mem_filter, hDt.out]), hsm.out.of (fun k => by simp only [List.mem_append, List.mem_filter, hD.out]), hm.out.st, hm.out.sr, hm.out.tr, hm.out.os, hm.out.ot, hm.out.or⟩, hzw⟩
    ·have bx6 : w6.heap[w.heap.size]? = some (xnB (x, .map (some mt), .map (some mr))) := (hc6.same _ (Array.getElem?_eq_some_iff.1 hbr.out).1 (fun e => by omega)).trans hbr.out
     obtain ⟨-, -, -, -, x3, -⟩ := box_cells bx6; have ht6 := htr.out.ch hc6 (fun e => by omega); have hs6 := hid (hsm.out.ch hc6 (fun e => by omega)); replace hit6 := hid hit6; replace hc6 := hid (hch.out.trans (hc6.mono (O1 := isI r wz.heap.size) (fun _ e => .inr e)) (fun _ h => .inl h)); clear bx6 hkS
     by_cases hk : k ∈ x.rv
     ·have hlk := run_has1 ht6 hk
      replace hk := hid hk; clear ht6
      go_wp2_with fail
      go_roundg (m' + 1)
      case measure => omega
      case rel => exact ⟨m', k :: D, rfl, hit6.out, by rw [Hid, List.filter_cons_of_neg (by simp [hk.out])]; exact hs6.out, hc6.out⟩
     ·have hlk := run_has0 ht6 hk
      replace hk := hid hk; clear ht6; obtain ⟨w7, hu, s7, c7⟩ := run_join hs6.out k; replace s7 := hid s7; replace c7 := hid c7
      go_wp2_with fail
      go_roundg (m' + 1)
      case measure => omega
      case rel => exact ⟨m', k :: D, rfl, hit6.out.ch c7.out (fun e => by omega) (fun e => by omega), by rw [Hid, List.filter_cons_of_pos (by simp [hk.out])]; exact s7.out, hc6.out.trans c7.out (fun _ e => .inl (.inl e))⟩
  ·have bx6 : w6.heap[w.heap.size]? = some (xnB (x, .map (some mt), .map (some mr))) := (hc6.same _ (Array.getElem?_eq_some_iff.1 hbr.out).1 (fun e => by omega)).trans hbr.out
   obtain ⟨-, -, -, x3, -, -⟩ := box_cells bx6; have ht6 := htr.out.ch hc6 (fun e => by omega); have hs6 := hid (hsm.out.ch hc6 (fun e => by omega)); replace hit6 := hid hit6; replace hc6 := hid (hch.out.trans (hc6.mono (O1 := isI t w4.heap.size) (fun _ e => .inr e)) (fun _ h => .inl h)); clear bx6 hkS
   by_cases hk : k ∈ x.tv
   ·have hlk := run_has1 ht6 hk
    replace hk := hid hk; clear ht6
    go_wp2_with fail
    go_roundg (m' + 1)
    case measure => omega
    case rel => exact ⟨m', k :: D, rfl, hit6.out, by rw [Hid, List.filter_cons_of_neg (by simp [hk.out])]; exact hs6.out, hc6.out⟩
   ·have hlk := run_has0 ht6 hk
    replace hk := hid hk; clear ht6; obtain ⟨w7, hu, s7, c7⟩ := run_join hs6.out k; replace s7 := hid s7; replace c7 := hid c7
    go_wp2_with fail
    go_roundg (m' + 1)
    case measure => omega
    case rel => exact ⟨m', k :: D, rfl, hit6.out.ch c7.out (fun e => by omega) (fun e => by omega), by rw [Hid, List.filter_cons_of_pos (by simp [hk.out])]; exact s7.out, hc6.out.trans c7.out (fun _ e => .inl (.inl e))⟩
end Go.Proofs.Ytejciampbnfbhaa

namespace Go.Proofs.Ytejciampbnfbhaa
open Go.RowKit Ie
theorem Ch.old {O : Nat → Prop} {a b c : World} (h : Ch (fun _ => False) a b) (k : Ch O b c) (hO : ∀ j, O j → a.heap.size ≤ j) : Ch (fun _ => False) a c := h.trans k (fun j hj => .inr (hO j hj))
theorem InSight_any {f : Nat} {w : World} {Q : Cc} {K : Ck} {es : Env} {ops : List Opr} {e : E} {p : Sets} (h : CM w Q K es ops e) (hl : es.length < 1000000) (hp : sight f e (es.map (·.1)) ([], [], []) = some p) :
  Calls Try.prog 55 #[.pointer (some ⟨Q.c, 0, none⟩)] w fun en w' => ∃ t r, en = .returned (.tuple #[.map (some t), .map (some r)]) ∧ SM w' t p.2.1 ∧ SM w' r p.2.2 ∧ t ≠ r ∧ w.heap.size ≤ t ∧ w.heap.size ≤ r ∧ Ch (fun _ => False) w w' := by
 have hmk := fun w' : World => run_makeMap_plain (P := Try.prog) (w := w') 71
 have hq3 := hid (((al_ch w (.map #[] 0)).al (.map #[] 0)).al (.map #[] 0))
 have s1 := SM.new w
 have s2 := SM.new (w.alloc (.map #[] 0))
 have s3 := SM.new ((w.alloc (.map #[] 0)).alloc (.map #[] 0))
 have s13 := hid ((s1.al (.map #[] 0)).al (.map #[] 0))
 have s23 := hid (s2.al (.map #[] 0))
 simp only [al_size] at s13 s23 s3
 have hm0 := hid (MS.new (w := w) ⟨h.vm.1, h.vm.2⟩ s3 s13.out s23.out (by omega) (by omega) (by omega) (by omega) (by omega) (by omega))
 clear s1 s2 s3 s13 s23
 replace h := hid h
 replace hp := hid hp
 go_enter Try.func55, Try.ntmps55
 go_wp2_with fail
 generalize ((w.alloc (.map #[] 0)).alloc (.map #[] 0)).alloc (.map #[] 0) = w3 at *
 clear hmk
 go_loopg [7] (es.length + 1) (fun q v wr => ∃ (i : Nat) (S : Sets), v = .int .i64 (i : Nat) ∧ i ≤ es.length ∧ q = es.length + 1 - i ∧ Hid (MS wr Q.b K.G (w.heap.size + 1 + 1) w.heap.size (w.heap.size + 1) S) ∧ Hid (sight f e ((es.drop i).map (·.1)) S = some p) ∧ Hid (Ch (fun _ => False) w wr))
 case atStart => exact ⟨0, _, rfl, by omega, by omega, hm0, hp, hq3⟩
 case round =>
  obtain ⟨i, S, rfl, hi, rfl, hm, hs, hc⟩ := hrel
  have hw := hid (h.out.quiet hc.out)
  obtain ⟨c0, c1, -, -, -⟩ := hw.out.cells
  by_cases hlt : i < es.length
  ·obtain ⟨x, hx⟩ : ∃ x, es[i]? = some x := ⟨_, List.getElem?_eq_getElem hlt⟩
   obtain ⟨g, cap, hev, -, x0, x1, x2, x3, x4, x5⟩ := hw.out.at hx; rw [hev] at c1; have i1 : (i : Int) < (es.length : Int) := by omega
   have i0 : (0 : Int) ≤ (i : Int) := by omega
   have hs2 := hs.out; rw [List.drop_eq_getElem_cons hlt, List.map_cons, (List.getElem?_eq_some_iff.1 hx).2] at hs2; unfold sight at hs2; obtain ⟨S', hv, hs3⟩ := Option.bind_eq_some_iff.1 hs2; replace hs3 := hid hs3; clear hs2; have hnam := h.out.nam x (List.mem_of_getElem? hx)
   by_cases hall : x.1.all = true
   ·rw [if_pos hall] at hv
    obtain ⟨P, hP, rfl⟩ := Option.map_eq_some_iff.1 hv; obtain ⟨mt, mr, e3, e4, ht, hr, -, -⟩ := hnam.gen hall; rw [e3] at x3; rw [e4] at x4; rw [hall] at x2; have hnm : nmV (x.1, .map (some mt), .map (some mr)) = .agg #[str x.1.name, .int .i64 x.1.t, .bool true, .map (some mt), .map (some mr), .bool x.1.opn] := by rw [← hall]
    have hmtl := ht.lt; have hmrl := hr.lt; have HM := fun (W : World) (hW : Ch (fun _ => False) wr W) => Mine_any (w := W) (x := x.1) (VM.quiet ⟨hw.out.vm.1, hw.out.vm.2⟩ hW) (hm.out.quiet hW) ((ht.quiet hc.out).quiet hW) ((hr.quiet hc.out).quiet hW) (fun q => by rcases q with q | q | q <;> omega) (fun q => by rcases q with q | q | q <;> omega) hP; rw [hnm] at HM; clear e3 e4 hnam hv hnm ht hr; replace hall := hid hall; clear hall; replace hx := hid hx; have hgb : g < w.heap.size := h.out.lt (.inr (.inr (by rw [hev]; rfl)))
    go_upto_region 8 with (fail)
    have hS0 : (fun w' => w'.cell? ⟨Q.c, 1, none⟩ = some (.slice (some ⟨g, 0, none⟩) es.length cap) ∧ w'.cell? ⟨g, i * 6, none⟩ = some (str x.1.name) ∧ w'.cell? ⟨g, i * 6 + 1, none⟩ = some (.int .i64 x.1.t) ∧ w'.cell? ⟨g, i * 6 + 2, none⟩ = some (.bool true) ∧ w'.cell? ⟨g, i * 6 + 3, none⟩ = some (.map (some mt)) ∧ w'.cell? ⟨g, i * 6 + 4, none⟩ = some (.map (some mr)) ∧ w'.cell? ⟨g, i * 6 + 5, none⟩ = some (.bool x.1.opn)) wr.drew := ⟨cell_keeps (Ch.drew (fun _ => False) wr) c1, cell_keeps (Ch.drew (fun _ => False) wr) x0, cell_keeps (Ch.drew (fun _ => False) wr) x1, cell_keeps (Ch.drew (fun _ => False) wr) x2, cell_keeps (Ch.drew (fun _ => False) wr) x3, cell_keeps (Ch.drew (fun _ => False) wr) x4, cell_keeps (Ch.drew (fun _ => False) wr) x5⟩; refine wp_region_held_drew (S := (fun w' => w'.cell? ⟨Q.c, 1, none⟩ = some (.slice (some ⟨g, 0, none⟩) es.length cap) ∧ w'.cell? ⟨g, i * 6, none⟩ = some (str x.1.name) ∧ w'.cell? ⟨g, i * 6 + 1, none⟩ = some (.int .i64 x.1.t) ∧ w'.cell? ⟨g, i * 6 + 2, none⟩ = some (.bool true) ∧ w'.cell? ⟨g, i * 6 + 3, none⟩ = some (.map (some mt)) ∧ w'.cell? ⟨g, i * 6 + 4, none⟩ = some (.map (some mr)) ∧ w'.cell? ⟨g, i * 6 + 5, none⟩ = some (.bool x.1.opn))) (by kernel_rfl) (by first | trivial | ((try dsimp only); go_keep)) (fun hHeld => ?_); refine tk 0 rfl ?_; refine tk 1 rfl ?_; refine tk 2 rfl ?_; refine tk 3 rfl ?_; refine tk 4 rfl ?_; refine tk 5 rfl ?_; refine tk 6 rfl ?_; refine tk 7 rfl ?_; refine tk 8 rfl ?_; refine tk 9 rfl ?_; refine tk 10 rfl ?_; refine tk 11 rfl ?_; refine tk 12 rfl ?_; refine tk 13 rfl ?_; refine tk 14 rfl ?_; refine tk 15 rfl ?_; refine tk 16 rfl ?_; refine tk 17 rfl ?_; refine tk 18 rfl ?_; refine rd1 19 rfl (fun K hK => ?_)
    go_simp
    refine (HM _ (Ch.drew (fun _ => False) wr)).mono ?_; clear HM; rintro en w5 ⟨rfl, hm5, hc5⟩; have hKP := fun {p : Addr} {v : Value} (hv : wr.cell? p = some v) (hp : p.block < w.heap.size) => ((hc5.cell (p := p) (block_lt_of_cell (cell_keeps (Ch.drew (fun _ => False) wr) hv)) (fun j => by rcases j with h | h | h <;> omega)).trans (cell_keeps (Ch.drew (fun _ => False) wr) hv)); have hS5 : (fun w' => w'.cell? ⟨Q.c, 1, none⟩ = some (.slice (some ⟨g, 0, none⟩) es.length cap) ∧ w'.cell? ⟨g, i * 6, none⟩ = some (str x.1.name) ∧ w'.cell? ⟨g, i * 6 + 1, none⟩ = some (.int .i64 x.1.t) ∧ w'.cell? ⟨g, i * 6 + 2, none⟩ = some (.bool true) ∧ w'.cell? ⟨g, i * 6 + 3, none⟩ = some (.map (some mt)) ∧ w'.cell? ⟨g, i * 6 + 4, none⟩ = some (.map (some mr)) ∧ w'.cell? ⟨g, i * 6 + 5, none⟩ = some (.bool x.1.opn)) w5 := ⟨hKP c1 (h.out.lt (.inr (.inl rfl))), hKP x0 hgb, hKP x1 hgb, hKP x2 hgb, hKP x3 hgb, hKP x4 hgb, hKP x5 hgb⟩; clear hKP; replace hm5 := hid hm5; replace hc5 := hid hc5
    dsimp only
    clear hHeld; refine gn hK (fun hHeld => ?_); clear hK K; refine wpAnyH_done (by kernel_rfl) ?_ _; clear hHeld
    go_wp2_with fail
    go_roundg (es.length - i)
    case measure => omega
    case rel => exact ⟨i + 1, _, by simp, by omega, by omega, hm5, hs3, hid (hc.out.old (((Ch.drew (fun _ => False) wr).mono (fun _ h => h.elim)).trans hc5.out (fun _ h => .inl h)) (fun j hj => by rcases hj with h | h | h <;> omega))⟩
   ·rw [if_neg hall] at hv
    have hf : x.1.all = false := by simpa using hall
    rw [hf] at x2; have HV := Vars_any Q.c Q.b f f ⟨hw.out.vm.1, hw.out.vm.2⟩ hm.out hv; clear hall hf hnam hv; replace hx := hid hx
    go_wp2_with (go_at_call 56; refine HV.mono ?_; clear HV; rintro en w5 ⟨rfl, hm5, hc5⟩; replace hm5 := hid hm5; replace hc5 := hid hc5)
    go_roundg (es.length - i)
    case measure => omega
    case rel => exact ⟨i + 1, _, by simp, by omega, by omega, hm5, hs3, hid (hc.out.old hc5.out (fun j hj => by rcases hj with h | h | h <;> omega))⟩
  ·obtain rfl : i = es.length := by omega
   have hs2 := hs.out; rw [List.drop_length, List.map_nil] at hs2; obtain rfl := Option.some.inj hs2; clear hs2; obtain ⟨a, cap, hev, -, -⟩ := row_slice hw.out.env; rw [hev] at c1
   go_wp2_with fail
   go_ret2
   exact ⟨_, _, rfl, hm.out.mt, hm.out.mr, hm.out.tr, Nat.le_refl _, Nat.le_succ _, hc.out⟩
end Go.Proofs.Ytejciampbnfbhaa

namespace Go.Proofs.Ytejciampbnfbhaa
open Go.RowKit Ie
abbrev xnB0 : Obj := .cells #[.string ⟨#[]⟩, .int .i64 0, .bool false, .map none, .map none, .bool false] 73
theorem xnB0_cells {w : World} {n : Nat} (h : w.heap[n]? = some xnB0) : (w.cell? ⟨n, 0, none⟩ = some (.string ⟨#[]⟩) ∧ w.cell? ⟨n, 1, none⟩ = some (.int .i64 0) ∧ w.cell? ⟨n, 2, none⟩ = some (.bool false) ∧ w.cell? ⟨n, 3, none⟩ = some (.map none) ∧ w.cell? ⟨n, 4, none⟩ = some (.map none) ∧ w.cell? ⟨n, 5, none⟩ = some (.bool false)) := by
 refine ⟨?_, ?_, ?_, ?_, ?_, ?_⟩ <;> (unfold World.cell?; rw [h]; rfl)
theorem General_any {f : Nat} {w : World} {Q : Cc} {K : Ck} {es : Env} {ops : List Opr} {e : E} {name : List UInt8} {n : Int} {x : En} (h : CM w Q K es ops e) (hl : es.length < 1000000) (hp : general f e (es.map (·.1)) name n = some x) :
  Calls Try.prog 30 #[.pointer (some ⟨Q.c, 0, none⟩), str name, .int .i64 n] w fun en w' => ∃ t r, en = .returned (nmV (x, .map (some t), .map (some r))) ∧ SM w' t x.tv ∧ SM w' r x.rv ∧ w.heap.size ≤ t ∧ w.heap.size ≤ r ∧ x.all = true ∧ Ch (fun _ => False) w w' := by
 have hmk := fun w' : World => run_makeMap_plain (P := Try.prog) (w := w') 71
 unfold general at hp
 obtain ⟨s, hs, hp2⟩ := Option.bind_eq_some_iff.1 hp
 obtain ⟨v, hv, hx⟩ := Option.map_eq_some_iff.1 hp2
 clear hp hp2
 have hB1 := hid (World.alloc_heap_new w xnB0)
 have hq1 := hid (al_ch w xnB0)
 have HI := InSight_any (h.quiet hq1.out) hl hs
 have hxt : Hid (x.tv = v.2.1.filter (fun k => !s.2.1.contains k)) := by rw [← hx]; rfl
 have hxr : Hid (x.rv = v.2.2.filter (fun k => !s.2.2.contains k)) := by rw [← hx]; rfl
 have hxn : Hid (x.name = name ∧ x.t = n ∧ x.all = true ∧ x.opn = true) := by rw [← hx]; exact ⟨rfl, rfl, rfl, rfl⟩
 clear hx
 replace h := hid h
 replace hv := hid hv
 clear hs
 go_enter Try.func30, Try.ntmps30
 go_upto_region 2 with (go_at_call 55; refine HI.mono ?_; clear HI; rintro en w2 ⟨t1, r1, rfl, ht1, hr1, htr, hz1, hz2, hc2⟩)
 rw [al_size] at hz1 hz2
 have hz0 : w.heap.size < w2.heap.size := Nat.lt_of_lt_of_le (by simp) hc2.size
 have hq2 := hid (hq1.out.trans hc2 (fun _ h => .inl h))
 have hB2 : Hid (w2.heap[w.heap.size]? = some xnB0) := (hc2.same _ (by simp) (fun h => h)).trans hB1.out
 have htl := ht1.lt
 have hrl := hr1.lt
 have hq3 := hid (((al_ch w2 (.map #[] 0)).al (.map #[] 0)).al (.map #[] 0))
 have s1 := SM.new w2
 have s2 := SM.new (w2.alloc (.map #[] 0))
 have s3 := SM.new ((w2.alloc (.map #[] 0)).alloc (.map #[] 0))
 have s13 := hid ((s1.al (.map #[] 0)).al (.map #[] 0))
 have s23 := hid (s2.al (.map #[] 0))
 simp only [al_size] at s13 s23 s3
 have hC2 := hid (h.out.quiet hq2.out)
 have HV := Vars_any Q.c Q.b f f (VM.quiet ⟨hC2.out.vm.1, hC2.out.vm.2⟩ hq3.out) (MS.new (w := w2) ⟨hC2.out.vm.1, hC2.out.vm.2⟩ s3 s13.out s23.out (by omega) (by omega) (by omega) (by omega) (by omega) (by omega)) hv.out
 clear s1 s2 s3 hc2 hB1 hq1
 replace ht1 := hid ht1
 replace hr1 := hid hr1
 go_upto_region 5 with (go_at_call 56; refine HV.mono ?_; clear HV; rintro en w4 ⟨rfl, hm4, hc4⟩)
 clear hmk
 have za : w2.heap.size + 2 < w4.heap.size := Nat.lt_of_lt_of_le (by simp) hc4.size
 have hq24 : Hid (Ch (fun _ => False) w2 w4) := hid (hq3.out.old hc4 (fun j hj => by rcases hj with h | h | h <;> omega))
 have hq4 := hid (hq2.out.trans hq24.out (fun _ h => .inl h))
 have hBa : Hid (w4.heap[w.heap.size]? = some xnB0) := (hq24.out.same _ hz0 (fun h => h)).trans hB2.out
 have hAa := hid (ht1.out.quiet hq24.out)
 have hAr := hid (hr1.out.quiet hq24.out)
 have hTa := hid hm4.mt
 have hTr := hid hm4.mr
 clear hm4 hc4 hq3 s13 s23 hB2
 obtain ⟨w5, n5, hrg, hit5a, hc5a⟩ := run_rangeS hAa.out
 replace hit5a := hid hit5a
 replace hc5a := hid hc5a
 go_wp2_with fail
 clear hrg
 go_loopg [11] (n5 + 1) (fun q _ wr => ∃ m D, q = m + 1 ∧ Hid (It wr w4.heap.size t1 s.2.1 m D) ∧ Hid (SM wr w2.heap.size (v.2.1.filter (fun k => !D.contains k))) ∧ Hid (Ch (isI w2.heap.size w4.heap.size) w5 wr))
 case atStart => exact ⟨n5, [], rfl, hit5a.out, (hTa.out.quiet hc5a.out).of (fun k => by simp), Ch.refl _ _⟩
 case round =>
  obtain ⟨m, D, rfl, hit, hsm, hch⟩ := hrel
  have h0r := hid (Ch.iter hc5a.out hch.out (Nat.le_refl _))
  rcases hit.out.next 0 with ⟨hm0, hnx, hD⟩ | ⟨k, vv, w6, m', hnx, hen, hlt, hit6, hc6, hkS⟩
  ·clear hm0
   replace hD := hid hD; have hBb : Hid (wr.heap[w.heap.size]? = some (xnB0)) := (h0r.out.same _ (by omega) (fun e => by omega)).trans hBa.out; have hAb := hid (hAr.out.ch h0r.out (fun e => by omega)); have hTb := hid (hTr.out.ch h0r.out (fun e => by omega)); have hst := hsm; have hDt := hD; have zb : w4.heap.size ≤ wr.heap.size := h0r.out.size; have hqz : Hid (Ch (fun _ => False) w wr) := hid (hq4.out.old h0r.out (fun j e => by omega)); clear hit hsm hD; generalize wr = wz at *; clear h0r hch; obtain ⟨w9, n9, hrg, hit5b, hc5b⟩ := run_rangeS hAb.out; replace hit5b := hid hit5b; replace hc5b := hid hc5b
   go_wp2_with fail
   clear hrg
   go_loopg [12] (n9 + 1) (fun q _ wr => ∃ m D, q = m + 1 ∧ Hid (It wr wz.heap.size r1 s.2.2 m D) ∧ Hid (SM wr (w2.heap.size + 1) (v.2.2.filter (fun k => !D.contains k))) ∧ Hid (Ch (isI (w2.heap.size + 1) wz.heap.size) w9 wr))
   case atStart => exact ⟨n9, [], rfl, hit5b.out, (hTb.out.quiet hc5b.out).of (fun k => by simp), Ch.refl _ _⟩
   case round =>
    obtain ⟨m, D, rfl, hit, hsm, hch⟩ := hrel; have h0r := hid (Ch.iter hc5b.out hch.out (Nat.le_refl _))
    rcases hit.out.next 0 with ⟨hm0, hnx, hD⟩ | ⟨k, vv, w6, m', hnx, hen, hlt, hit6, hc6, hkS⟩
    ·clear hm0
     replace hD := hid hD; have hBc : wr.heap[w.heap.size]? = some (xnB0) := (h0r.out.same _ (by omega) (fun e => by omega)).trans hBb.out; obtain ⟨y0, y1, y2, y3, y4, y5⟩ := xnB0_cells hBc; have yf : ∀ i, wr.frozen? ⟨w.heap.size, i, none⟩ = false := fun i => by unfold World.frozen?; rw [hBc]; simp
     replace hBc := hid hBc
     go_wp2_with fail
     clear y0 y1 y2 y3 y4 y5 yf
     (try simp only [Exit.inBlock, Exit.then])
     have hBd := blk_set (i := 5) (v := .bool true) (blk_set (i := 4) (v := .map (some (w2.heap.size + 1))) (blk_set (i := 3) (v := .map (some w2.heap.size)) (blk_set (i := 2) (v := .bool true) (blk_set (i := 1) (v := .int .i64 n) (blk_set (i := 0) (v := str name) hBc.out))))); have hcd := (((((Ch.setCell (O := fun j => j = w.heap.size) wr ⟨w.heap.size, 0, none⟩ (str name) rfl).set (a := ⟨w.heap.size, 1, none⟩) rfl (.int .i64 n)).set (a := ⟨w.heap.size, 2, none⟩) rfl (.bool true)).set (a := ⟨w.heap.size, 3, none⟩) rfl (.map (some w2.heap.size))).set (a := ⟨w.heap.size, 4, none⟩) rfl (.map (some (w2.heap.size + 1)))).set (a := ⟨w.heap.size, 5, none⟩) rfl (.bool true); generalize World.setCell (World.setCell (World.setCell (World.setCell (World.setCell (World.setCell wr _ _) _ _) _ _) _ _) _ _) _ _ = wd at *; obtain ⟨y0, y1, y2, y3, y4, y5⟩ := box_cells (x := (⟨name, n, true, [], [], true⟩, .map (some w2.heap.size), .map (some (w2.heap.size + 1)))) (hBd.trans (by simp)); have hqd : Ch (fun _ => False) w wd := (hqz.out.old h0r.out (fun j e => by omega)).old hcd (fun j e => by omega); have hst2 := (hst.out.ch h0r.out (fun e => by omega)).ch hcd (fun e => by omega); have hsm2 := hsm.out.ch hcd (fun e => by omega); clear hBd hcd; refine bodyPost_ret (v := nmV (⟨name, n, true, x.tv, x.rv, true⟩, .map (some w2.heap.size), .map (some (w2.heap.size + 1)))) (by simp [results, Try.results30, go_sem, y0, y1, y2, y3, y4, y5]) rfl ?_; refine ⟨_, _, ?_, hst2.of (fun k => ?_), hsm2.of (fun k => ?_), by omega, by omega, hxn.out.2.2.1, hqd⟩
     ·obtain ⟨e1, e2, e3, e4⟩ := hxn.out
      simp [e1, e2, e3, e4]
     ·rw [hxt.out]
      simp only [List.mem_filter, Bool.not_eq_true', List.contains_eq_mem, decide_eq_false_iff_not, hDt.out]
     ·rw [hxr.out]
      simp only [List.mem_filter, Bool.not_eq_true', List.contains_eq_mem, decide_eq_false_iff_not, hD.out]
    ·have hs6 := hsm.out.ch hc6 (fun e => by omega)
     obtain ⟨w7, hu, s7, c7⟩ := run_drop hs6 k 0; replace hit6 := hid hit6; replace hc6 := hid (hch.out.trans (hc6.mono (O1 := isI (w2.heap.size + 1) wz.heap.size) (fun _ e => .inr e)) (fun _ h => .inl h)); replace s7 := hid s7; replace c7 := hid c7; clear hkS hs6
     go_wp2_with fail
     go_roundg (m' + 1)
     case measure => omega
     case rel => exact ⟨m', k :: D, rfl, hit6.out.ch c7.out (fun e => by omega) (fun e => by omega), s7.out.of (fun q => by simp only [List.mem_filter, List.contains_cons, Bool.not_or, Bool.and_eq_true, bne_iff_ne, ne_eq, Bool.not_eq_true', beq_eq_false_iff_ne]; exact ⟨fun h => ⟨h.1.1, h.2, h.1.2⟩, fun h => ⟨⟨h.1, h.2.2⟩, h.2.1⟩⟩), hc6.out.trans c7.out (fun _ e => .inl (.inl e))⟩
  ·have hs6 := hsm.out.ch hc6 (fun e => by omega)
   obtain ⟨w7, hu, s7, c7⟩ := run_drop hs6 k 0; replace hit6 := hid hit6; replace hc6 := hid (hch.out.trans (hc6.mono (O1 := isI w2.heap.size w4.heap.size) (fun _ e => .inr e)) (fun _ h => .inl h)); replace s7 := hid s7; replace c7 := hid c7; clear hkS hs6
   go_wp2_with fail
   go_roundg (m' + 1)
   case measure => omega
   case rel => exact ⟨m', k :: D, rfl, hit6.out.ch c7.out (fun e => by omega) (fun e => by omega), s7.out.of (fun q => by simp only [List.mem_filter, List.contains_cons, Bool.not_or, Bool.and_eq_true, bne_iff_ne, ne_eq, Bool.not_eq_true', beq_eq_false_iff_ne]; exact ⟨fun h => ⟨h.1.1, h.2, h.1.2⟩, fun h => ⟨⟨h.1, h.2.2⟩, h.2.1⟩⟩), hc6.out.trans c7.out (fun _ e => .inl (.inl e))⟩
end Go.Proofs.Ytejciampbnfbhaa
