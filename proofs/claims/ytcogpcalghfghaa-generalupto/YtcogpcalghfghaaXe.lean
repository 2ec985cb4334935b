/-
  What by has come to: its kids.
-/
import Derived.Test.YtcogpcalghfghaaMXa
set_option linter.unusedVariables false
set_option linter.unusedSimpArgs false
namespace Go.Proofs.Ytcogpcalghfghaa
open Go.RowKit
open Un (Nm ins joinB Srt RV rowW rvOf app)

/-- The boxes of by. -/
structure ByS (w wr : World) (tb rb ub : Nat) (kt nt rt : Int) (os az : Value) (r : Int) (v va : Value) : Prop where
  ch : Ch (fun _ => False) w wr
  bt : wr.heap[tb]? = some (tyB kt nt rt os az)
  br : wr.heap[rb]? = some (tyB 0 0 0 (.slice none 0 0) (.slice none 0 0))
  bu : wr.heap[ub]? = some (tyB kt nt r v va)
  lt : w.heap.size ≤ tb
  lr : w.heap.size ≤ rb
  lu : w.heap.size ≤ ub
  ne : tb ≠ ub ∧ rb ≠ ub ∧ tb ≠ rb
namespace ByS
variable {w wr : World} {tb rb ub : Nat} {kt nt rt r : Int} {os az v va : Value}
theorem quiet {w' : World} (h : ByS w wr tb rb ub kt nt rt os az r v va) (hc : Ch (fun _ => False) wr w') : ByS w w' tb rb ub kt nt rt os az r v va :=
  ⟨h.ch.trans hc (fun _ h => h.elim), hc.keeps h.bt (fun h => h), hc.keeps h.br (fun h => h), hc.keeps h.bu (fun h => h), h.lt, h.lr, h.lu, h.ne⟩
theorem far {w' : World} {O : Nat → Prop} (h : ByS w wr tb rb ub kt nt rt os az r v va) (hc : Ch O wr w') (hO : ∀ k, O k → w.heap.size ≤ k ∧ k ≠ tb ∧ k ≠ rb ∧ k ≠ ub) : ByS w w' tb rb ub kt nt rt os az r v va :=
  ⟨h.ch.trans hc (fun k hk => .inr (hO k hk).1), hc.keeps h.bt (fun h => (hO _ h).2.1 rfl), hc.keeps h.br (fun h => (hO _ h).2.2.1 rfl), hc.keeps h.bu (fun h => (hO _ h).2.2.2 rfl), h.lt, h.lr, h.lu, h.ne⟩
theorem cells (h : ByS w wr tb rb ub kt nt rt os az r v va) : wr.cell? ⟨tb, 2, none⟩ = some (.int .i64 rt) ∧ wr.cell? ⟨tb, 3, none⟩ = some os ∧ wr.cell? ⟨tb, 4, none⟩ = some az ∧
    wr.cell? ⟨ub, 0, none⟩ = some (.int .i64 kt) ∧ wr.cell? ⟨ub, 1, none⟩ = some (.int .i64 nt) ∧ wr.cell? ⟨ub, 2, none⟩ = some (.int .i64 r) ∧ wr.cell? ⟨ub, 3, none⟩ = some v ∧ wr.cell? ⟨ub, 4, none⟩ = some va ∧ ∀ i, wr.frozen? ⟨ub, i, none⟩ = false := by
  refine ⟨by rw [cellB h.bt]; rfl, by rw [cellB h.bt]; rfl, by rw [cellB h.bt]; rfl, by rw [cellB h.bu]; rfl, by rw [cellB h.bu]; rfl, by rw [cellB h.bu]; rfl, by rw [cellB h.bu]; rfl, by rw [cellB h.bu]; rfl, fun i => ?_⟩
  unfold World.frozen?
  rw [h.bu]
  simp
theorem setU {i : Nat} {x : Value} {r' : Int} {v' va' : Value} (h : ByS w wr tb rb ub kt nt rt os az r v va) (hx : Obj.cells (#[.int .i64 kt, .int .i64 nt, .int .i64 r, v, va].setIfInBounds i x) 27 (0, 0) = tyB kt nt r' v' va') : ByS w (wr.setCell ⟨ub, i, none⟩ x) tb rb ub kt nt rt os az r' v' va' := by
  have hc := (Ch.refl (fun j => j = ub) wr).setX ub i x (.inl rfl)
  exact ⟨h.ch.setX _ _ _ (.inr h.lu), hc.keeps h.bt h.ne.1, hc.keeps h.br h.ne.2.1, ty_set h.bu hx, h.lt, h.lr, h.lu, h.ne⟩
theorem setOps (h : ByS w wr tb rb ub kt nt rt os az r v va) (v' : Value) : ByS w (wr.setCell ⟨ub, 3, none⟩ v') tb rb ub kt nt rt os az r v' va := h.setU rfl
theorem setRow (h : ByS w wr tb rb ub kt nt rt os az r v va) (r' : Int) : ByS w (wr.setCell ⟨ub, 2, none⟩ (.int .i64 r')) tb rb ub kt nt rt os az r' v va := h.setU rfl
theorem setArgs (h : ByS w wr tb rb ub kt nt rt os az r v va) (va' : Value) : ByS w (wr.setCell ⟨ub, 4, none⟩ va') tb rb ub kt nt rt os az r v va' := h.setU rfl
theorem ltu (h : ByS w wr tb rb ub kt nt rt os az r v va) : tb < wr.heap.size ∧ rb < wr.heap.size ∧ ub < wr.heap.size := ⟨(Array.getElem?_eq_some_iff.1 h.bt).1, (Array.getElem?_eq_some_iff.1 h.br).1, (Array.getElem?_eq_some_iff.1 h.bu).1⟩
end ByS
theorem hc4 (w : World) (v : Value) {ub i : Nat} : Ch (fun k => k = ub) w (w.setCell ⟨ub, i, none⟩ v) := (Ch.refl (fun j => j = ub) w).setX ub i v (.inl rfl)
theorem joinB_take {o : List Nm} {i : Nat} (h : i < o.length) (l : List Nm) : joinB l (o.take (i + 1)) = ins o[i] (joinB l (o.take i)) := by
  rw [List.take_succ_eq_append_getElem h]
  unfold joinB
  rw [List.foldl_append]
  rfl
theorem sv_opsV {w : World} {v : Value} {l : List Nm} (h : SV w v l) : OpsV w v l := by
  obtain ⟨a, c, rfl, ⟨rfl, rfl, rfl⟩ | ⟨g, k, rfl, h1, _, h3⟩⟩ := h
  · exact ⟨_, _, rfl, Nat.le_refl _, fun h => absurd rfl h⟩
  · exact ⟨_, _, rfl, h1, fun _ => ⟨g, k, rfl, fun i hi => h3 i _ (List.getElem?_eq_getElem hi)⟩⟩
theorem RdO.lt {w : World} {P : Nat → Prop} : ∀ {n : Nat} {os az : Value}, RdO w P n os az → RdO w (fun k => P k ∧ k < w.heap.size) n os az := by
  intro n
  induction n with
  | zero => intro os az h; exact h
  | succ n ih =>
    rintro os az ⟨⟨o, h1, h2, hp⟩, a, l, c, e, h3, h4, h5⟩
    refine ⟨⟨o, h1, h2, fun h0 k hk => ⟨hp h0 k hk, ?_⟩⟩, a, l, c, e, h3, h4, fun h0 => ?_⟩
    · obtain ⟨a', c', rfl, _, h6⟩ := h1
      obtain ⟨g, q, rfl, h7⟩ := h6 h0
      cases hk
      exact World.block_lt_of_cell? w ⟨g, q + 0, none⟩ (h7 0 (List.length_pos_iff.2 h0))
    · obtain ⟨g, q, e2, hg, h6⟩ := h5 h0
      obtain ⟨k, m, r, os', az', h7, _⟩ := h6 0 (by omega)
      refine ⟨g, q, e2, ⟨hg, h7.lt⟩, fun i hi => ?_⟩
      obtain ⟨k, m, r, os', az', h7, h8⟩ := h6 i hi
      exact ⟨k, m, r, os', az', h7, ih h8⟩
def rawC (x : Raw) : List Value := tyC x.k x.n x.r x.os x.az
/-- The kids that were made so far. -/
structure By5 (w0 w wr : World) (tb rb ub : Nat) (t : Ty.P) (os az : Value) (r : Int) (v : Value) (nm : List Nm) (σ : Nat → Ty.P) (ρ : Nat → RV) (va : Value) (xs : List Raw) : Prop where
  b : ByS w wr tb rb ub t.kind t.num t.row os az r v va
  sv : SV wr v nm
  sb : ∀ k, v.ownBlock = some k → w.heap.size ≤ k ∧ k ≠ ub ∧ k ≠ rb
  row : wr.ownsRow 0 27 5 va xs.length (xs.flatMap rawC)
  bb : ∀ k, va.ownBlock = some k → w.heap.size ≤ k ∧ k ≠ tb ∧ k ≠ rb ∧ k ≠ ub
  kd : ∀ (j : Nat) (x : Raw), xs[j]? = some x → ∃ (d : Nat) (P : Nat → Prop), RdO wr P d x.os x.az ∧ (∀ k, P k → (k < w0.heap.size ∨ w.heap.size ≤ k) ∧ k < wr.heap.size ∧ k ≠ ub ∧ k ≠ rb ∧ va.ownBlock ≠ some k) ∧ ∀ kid, (kidsT t)[j]? = some kid → ∀ u, FTR wr x u → u = app σ ρ kid
theorem ne9T : (9 : TypeId) ≠ 27 := by decide
theorem sv_notTy {w : World} {v : Value} {l : List Nm} (h : SV w v l) {k : Nat} {cs : Array Value} {fr : Nat × Nat} (hk : w.heap[k]? = some (.cells cs 27 fr)) : v.ownBlock ≠ some k := by
  obtain ⟨a, c, rfl, ⟨rfl, _⟩ | ⟨g, q, rfl, _, ⟨cs', fz, hg⟩, _⟩⟩ := h
  · intro e; cases e
  · intro e
    cases e
    rw [hk] at hg
    cases hg
theorem By5.next {w0 w wr : World} {tb rb ub : Nat} {t : Ty.P} {os az : Value} {r : Int} {v : Value} {nm : List Nm} {σ : Nat → Ty.P} {ρ : Nat → RV} {va : Value} {xs : List Raw} (h : By5 w0 w wr tb rb ub t os az r v nm σ ρ va xs) (h0 : w0.heap.size ≤ w.heap.size) {x : Raw} {d : Nat} {w5 w8 : World} {va' : Value} {kid : Ty.P} (hk : (kidsT t)[xs.length]? = some kid)
    (hx : RdO w5 (fun k => k < w0.heap.size ∨ wr.heap.size ≤ k) d x.os x.az) (hc : Ch (fun _ => False) wr w5) (hu : ∀ u, FTR w5 x u → u = app σ ρ kid)
    (hrow : w8.ownsRow 0 27 5 va' (xs.length + 1) (xs.flatMap rawC ++ rawC x)) (hg : ((w5.alloc (tyB x.k x.n x.r x.os x.az)).alloc (tyB x.k x.n x.r x.os x.az)).grownBy w8 va.ownBlock) (hb : va'.ownBlock = va.ownBlock ∨ va'.ownBlock = some ((w5.alloc (tyB x.k x.n x.r x.os x.az)).alloc (tyB x.k x.n x.r x.os x.az)).heap.size) :
    By5 w0 w (w8.setCell ⟨ub, 4, none⟩ va') tb rb ub t os az r v nm σ ρ va' (xs ++ [x]) := by
  have hc7 : Ch (fun _ => False) wr ((w5.alloc (tyB x.k x.n x.r x.os x.az)).alloc (tyB x.k x.n x.r x.os x.az)) := (hc.trans (al_ch _ _) (fun _ h => h.elim)).trans (al_ch _ _) (fun _ h => h.elim)
  have c57 : Ch (fun _ => False) w5 ((w5.alloc (tyB x.k x.n x.r x.os x.az)).alloc (tyB x.k x.n x.r x.os x.az)) := (al_ch _ _).trans (al_ch _ _) (fun _ h => h.elim)
  generalize (w5.alloc (tyB x.k x.n x.r x.os x.az)).alloc (tyB x.k x.n x.r x.os x.az) = W7 at *
  have c8 : Ch (fun k => va.ownBlock = some k) W7 w8 := Ch.grown hg (fun k hk => hk)
  obtain ⟨l1, l2, l3⟩ := h.b.ltu
  have s7 := hc7.size
  have s5 := hc.size
  have s57 := c57.size
  have s8 := c8.size
  have b8 : ByS w w8 tb rb ub t.kind t.num t.row os az r v va := (h.b.quiet hc7).far c8 (fun k hk => h.bb k hk)
  have b9 := b8.setArgs va'
  have c9 := hc4 w8 va' (ub := ub) (i := 4)
  have c79 : Ch (fun k => va.ownBlock = some k ∨ k = ub) W7 (w8.setCell ⟨ub, 4, none⟩ va') := (c8.mono (fun _ h => .inl h)).trans c9 (fun k hk => .inl (.inr hk))
  have hbb : ∀ k, va'.ownBlock = some k → w.heap.size ≤ k ∧ k ≠ tb ∧ k ≠ rb ∧ k ≠ ub := by
    intro k hk
    rcases hb with e | e
    · exact h.bb k (e ▸ hk)
    · rw [e] at hk
      cases hk
      have := h.b.lu
      exact ⟨by omega, by omega, by omega, by omega⟩
  have hrow9 : (w8.setCell ⟨ub, 4, none⟩ va').ownsRow 0 27 5 va' (xs.length + 1) (xs.flatMap rawC ++ rawC x) := ownsRow_keep hrow (fun k hk => c9.same k (ownsRow_lt hrow hk) (fun e => (hbb k hk).2.2.2 e))
  have hs7 : SV W7 v nm := h.sv.keep hc7 (fun _ _ h => h)
  have hsO : ∀ k, v.ownBlock = some k → ¬ (va.ownBlock = some k ∨ k = ub) := by
    rintro k hk (e | e)
    · obtain ⟨cs, fr, ec⟩ := Tb.row h.row k e
      exact sv_notTy h.sv ec hk
    · exact (h.sb k hk).2.1 e
  refine ⟨b9, hs7.keep c79 hsO, h.sb, by simpa using hrow9, hbb, fun j y hj => ?_⟩
  by_cases ej : j < xs.length
  · rw [List.getElem?_append_left ej] at hj
    obtain ⟨dj, P, p1, p2, p3⟩ := h.kd j y hj
    have hd : ∀ k, P k → ¬ (va.ownBlock = some k ∨ k = ub) := fun k hk e => by
      obtain ⟨_, _, q1, _, q2⟩ := p2 k hk
      rcases e with e | e
      · exact q2 e
      · exact q1 e
    have c09 : Ch (fun k => va.ownBlock = some k ∨ k = ub) wr (w8.setCell ⟨ub, 4, none⟩ va') := (hc7.mono (fun _ h => h.elim)).trans c79 (fun _ h => .inl h)
    refine ⟨dj, P, p1.keep c09 hd, fun k hk => ?_, fun kid' hk' u hu' => p3 kid' hk' u (FT.backO c09 hd p1 hu')⟩
    obtain ⟨q0, q1, q2, q3, q4⟩ := p2 k hk
    refine ⟨q0, Nat.lt_of_lt_of_le q1 c09.size, q2, q3, fun e => ?_⟩
    rcases hb with e2 | e2
    · exact q4 (e2 ▸ e)
    · rw [e2] at e
      cases e
      omega
  · rw [List.getElem?_append_right (by omega)] at hj
    have hj0 : j = xs.length := by
      have := (List.getElem?_eq_some_iff.1 hj).1
      simp at this
      omega
    subst hj0
    rw [Nat.sub_self] at hj
    obtain rfl : x = y := Option.some.inj hj
    have hx' := hx.lt
    have hd : ∀ k, ((k < w0.heap.size ∨ wr.heap.size ≤ k) ∧ k < w5.heap.size) → ¬ (va.ownBlock = some k ∨ k = ub) := by
      rintro k ⟨hk, hk5⟩ (e | e)
      · have h1 := (h.bb k e).1
        have h2 := ownsRow_lt h.row e
        omega
      · have := h.b.lu
        omega
    have c59 : Ch (fun k => va.ownBlock = some k ∨ k = ub) w5 (w8.setCell ⟨ub, 4, none⟩ va') := (c57.mono (fun _ h => h.elim)).trans c79 (fun _ h => .inl h)
    refine ⟨d, _, hx'.keep c59 hd, fun k hk => ?_, fun kid' hk' u hu' => ?_⟩
    · have hsz := c59.size
      have hw : w.heap.size ≤ wr.heap.size := h.b.ch.size
      refine ⟨?_, Nat.lt_of_lt_of_le hk.2 hsz, fun e => hd k hk (.inr e), ?_, fun e => ?_⟩
      · rcases hk.1 with q | q
        · exact .inl q
        · exact .inr (by omega)
      · intro e
        have := h.b.lr
        rcases hk.1 with q | q <;> omega
      · rcases hb with e2 | e2
        · exact hd k hk (.inl (e2 ▸ e))
        · rw [e2] at e
          cases e
          have := hk.2
          omega
    · rw [hk] at hk'
      obtain rfl := Option.some.inj hk'
      exact hu u (FT.backO c59 hd hx' hu')
/-- A bound for all. -/
theorem max_all {α : Type} {p : Nat → α → Prop} (hm : ∀ {n m : Nat} {x : α}, p n x → n ≤ m → p m x) : ∀ (l : List α), (∀ x ∈ l, ∃ d, p d x) → ∃ D, ∀ x ∈ l, p D x := by
  intro l
  induction l with
  | nil => intro _; exact ⟨0, fun x h => by cases h⟩
  | cons a l ih =>
    intro h
    obtain ⟨d, hd⟩ := h a (by simp)
    obtain ⟨D, hD⟩ := ih (fun x hx => h x (by simp [hx]))
    refine ⟨max d D, fun x hx => ?_⟩
    rcases List.mem_cons.1 hx with rfl | hx
    · exact hm hd (Nat.le_max_left _ _)
    · exact hm (hD x hx) (Nat.le_max_right _ _)
/-- The type that was made. -/
theorem app_of {σ : Nat → Ty.P} {ρ : Nat → RV} {t u : Ty.P} (h0 : t.kind ≠ 0) (hk : t.kind = u.kind) (hl : (kidsT t).length = (kidsT u).length) (hkid : ∀ (j : Nat) x y, (kidsT t)[j]? = some x → (kidsT u)[j]? = some y → y = app σ ρ x) (ho : u.ops = (rowW t.ops ρ (rvOf t.row)).1) (hr : u.row = (rowW t.ops ρ (rvOf t.row)).2) : u = app σ ρ t := by
  cases t with
  | var n => exact absurd rfl h0
  | int => cases u <;> simp [Ty.P.kind] at hk; rfl
  | bool => cases u <;> simp [Ty.P.kind] at hk; rfl
  | unit => cases u <;> simp [Ty.P.kind] at hk; rfl
  | list a =>
    cases u <;> simp [Ty.P.kind] at hk
    rw [hkid 0 a _ rfl rfl]
    rfl
  | pair a b =>
    cases u <;> simp [Ty.P.kind] at hk
    rw [hkid 0 a _ rfl rfl, hkid 1 b _ rfl rfl]
    rfl
  | fn a b o r =>
    cases u <;> simp [Ty.P.kind] at hk
    rw [hkid 0 a _ rfl rfl, hkid 1 b _ rfl rfl]
    simp only [Ty.P.ops, Ty.P.row] at ho hr
    rw [ho, hr]
    rfl
theorem rowC {w : World} {g c : Nat} {xs : List Raw} (h : w.ownsRow 0 27 5 (.slice (some ⟨g, 0, none⟩) xs.length c) xs.length (xs.flatMap rawC)) {j : Nat} {x : Raw} (hj : xs[j]? = some x) : El w g (j * 5) x.k x.n x.r x.os x.az := by
  have key : ∀ (l : List Raw) (j : Nat), l[j]? = some x → ∀ i, i < 5 → (l.flatMap rawC)[j * 5 + i]? = (rawC x)[i]? := by
    intro l
    induction l with
    | nil => intro j h; simp at h
    | cons a l ih =>
      intro j h i hi
      cases j with
      | zero =>
        obtain rfl : a = x := by simpa using h
        rw [List.flatMap_cons, List.getElem?_append_left (by simp [rawC, tyC]; omega)]
        simp
      | succ j =>
        rw [List.flatMap_cons, List.getElem?_append_right (by simp [rawC, tyC]; omega)]
        have : (j + 1) * 5 + i - (rawC a).length = j * 5 + i := by simp [rawC, tyC]; omega
        rw [this]
        exact ih j (by simpa using h) i hi
  have hk := fun i hi => key xs j hj i hi
  exact ⟨row_cell h _ _ (by rw [show j * 5 = j * 5 + 0 from rfl, hk 0 (by omega)]; rfl), row_cell h _ _ (by rw [hk 1 (by omega)]; rfl), row_cell h _ _ (by rw [hk 2 (by omega)]; rfl), row_cell h _ _ (by rw [hk 3 (by omega)]; rfl), row_cell h _ _ (by rw [hk 4 (by omega)]; rfl)⟩
theorem By5.fin {w0 w wr : World} {tb rb ub : Nat} {t : Ty.P} {os az : Value} {r : Int} {v : Value} {nm : List Nm} {σ : Nat → Ty.P} {n : Nat} {Z : Nat → Gv} {va : Value} {xs : List Raw} (h : By5 w0 w wr tb rb ub t os az r v nm σ (rho n Z) va xs) (h0 : t.kind ≠ 0) (hl : xs.length = (kidsT t).length) (hnl : nm.length ≤ 9223372036854775807) (hnm : nm = (rowW t.ops (rho n Z) (rvOf t.row)).1) (hr : ∀ q : Nat, r = q → q = (rowW t.ops (rho n Z) (rvOf t.row)).2) {k0 n0 r0 : Int} {o0 a0 : Value} :
    ByP σ w0 w n Z t (.returned (tyV t.kind t.num r v va)) (set5 wr rb k0 n0 r0 o0 a0) := by
  have cf : Ch (fun k => k = rb) wr (set5 wr rb k0 n0 r0 o0 a0) := set5_ch (Ch.refl _ wr) (.inl rfl)
  have cw : Ch (fun _ => False) w (set5 wr rb k0 n0 r0 o0 a0) := set5_ch h.b.ch (.inr h.b.lr)
  have hk2 := kids_two t
  obtain ⟨D, hD⟩ := max_all (p := fun d (x : Raw) => RdO (set5 wr rb k0 n0 r0 o0 a0) (fun k => k < w0.heap.size ∨ w.heap.size ≤ k) d x.os x.az) (fun hp hm => hp.mono (fun _ h => h) hm) xs (fun x hx => by
    obtain ⟨j, hj⟩ := List.getElem?_of_mem hx
    obtain ⟨d, P, p1, p2, _⟩ := h.kd j x hj
    exact ⟨d, (p1.keep cf (fun k hk e => (p2 k hk).2.2.2.1 e)).mono (fun k hk => (p2 k hk).1) (Nat.le_refl _)⟩)
  have hrow : (set5 wr rb k0 n0 r0 o0 a0).ownsRow 0 27 5 va xs.length (xs.flatMap rawC) := ownsRow_keep h.row (fun k hk => cf.same k (ownsRow_lt h.row hk) (fun e => (h.bb k hk).2.2.1 e))
  have hsv : SV (set5 wr rb k0 n0 r0 o0 a0) v nm := h.sv.keep cf (fun k hk e => (h.sb k hk).2.2 e)
  obtain ⟨aa, ac, hva, ha1, ha2⟩ := row_slice hrow
  have hel : ∀ (j : Nat) (x : Raw), xs[j]? = some x → ∃ g, aa = some ⟨g, 0, none⟩ ∧ El (set5 wr rb k0 n0 r0 o0 a0) g (j * 5) x.k x.n x.r x.os x.az := by
    intro j x hj
    have hlt := (List.getElem?_eq_some_iff.1 hj).1
    rcases ha1 with e | ⟨g, e⟩
    · omega
    · rw [hva, e] at hrow
      exact ⟨g, e, rowC hrow hj⟩
  refine ⟨⟨t.kind, t.num, r, v, va⟩, D + 1, rfl, ⟨⟨nm, (sv_opsV hsv), hnl, fun _ k hk => .inr (h.sb k hk).1⟩, aa, xs.length, ac, hva, ha2, by omega, fun hx0 => ?_⟩, cw, fun u hu => ?_⟩
  · obtain ⟨g, e, _⟩ := hel 0 _ (List.getElem?_eq_getElem (by omega))
    refine ⟨g, 0, e, .inr (h.bb g ?_).1, fun i hi => ?_⟩
    · rw [hva, e]
      rfl
    · obtain ⟨g', e', hE⟩ := hel i _ (List.getElem?_eq_getElem hi)
      rw [e] at e'
      cases e'
      exact ⟨_, _, _, _, _, by simpa using hE, hD _ (List.getElem_mem hi)⟩
  · have hu' : FT (set5 wr rb k0 n0 r0 o0 a0) t.kind t.num r v (.slice aa xs.length ac) u := by
      rw [← hva]; exact hu
    obtain ⟨q1, q2, q3⟩ := hu'.gen (sv_opsV hsv)
    obtain ⟨f1, f2, f3, _⟩ := hu'
    refine app_of h0 (by omega) (by omega) (fun j x y hx hy => ?_) (by rw [← q1, hnm]) (hr _ f3)
    have hjx : j < xs.length := by have := (List.getElem?_eq_some_iff.1 hx).1; omega
    obtain ⟨g, e, hE⟩ := hel j _ (List.getElem?_eq_getElem hjx)
    obtain ⟨d, P, p1, p2, p3⟩ := h.kd j _ (List.getElem?_eq_getElem hjx)
    have hy2 := q3 g 0 e j y hy (k := xs[j].k) (m := xs[j].n) (r := xs[j].r) (os' := xs[j].os) (az' := xs[j].az) (by simpa using hE)
    exact p3 x hx y (FT.backO cf (fun k hk e => (p2 k hk).2.2.2.1 e) p1 hy2)
end Go.Proofs.Ytcogpcalghfghaa
