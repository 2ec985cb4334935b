/-
  The program's answers.
  The program's NewVars; what add's answer says of the whole; a type that is told has its parts.
  The program's Solve.
-/
import Derived.Test.YtcogpcalghfghaaMVv
import Derived.Test.YtcogpcalghfghaaMEe
import Derived.Test.YtcogpcalghfghaaVr
import Derived.Test.YtcogpcalghfghaaMVm
import Derived.Test.YtcogpcalghfghaaMGb
set_option linter.unusedVariables false
set_option linter.unusedSimpArgs false
namespace Go.Proofs.Ytcogpcalghfghaa
open Go.RowKit
open Un (Bag Nm Gr)
open Un.Answers (ToldAll)
variable {F : Nat → Prop}

/-- An append by its run, in a plain list of operations. -/
theorem wpList_append_run {P : Program} {w w' : World} {ops : Array Oper} {rest : List Oper} {o : Oper} {a : Act} {Q : Exit → Act → World → Prop} {v q v' : Value} (hg : o.guard = none) (s x : Operand) (t : TypeId) (hop : o.op = Op.call { callee := Callee.builtin Builtin.append, args := #[s, x], argTypes := #[t, t] })
    (hs : a.eval s = v) (hx : a.eval x = q) (hr : (Builtin.append_ #[t, t] o.type #[v, q]).run P w = .ok v' w') (hK : wpList P ops Q rest (a.put o.dst v') w') : wpList P ops Q (o :: rest) a w := by
  refine wpList_plain hg fun K hK' => ?_
  unfold Oper.wp
  simp [execOp, hop, resolve, invoke, builtin, hs, hx, hr, Result.andThen]
  exact hK' _ _ hK

/-- Blocks of F besides the writer's were turned; what is new joins F. -/
theorem WrM.farG {w w' : World} {G : Gr} {X : Gx} {wB mT mR : Nat} {N : Gr.Nms} (h : WrM w G X F wB mT mR N) {O : Nat → Prop} (hc : Ch O w w') (hO : ∀ k, O k → F k ∧ k ≠ wB ∧ k ≠ mT ∧ k ≠ mR) : WrM w' G X (Fg F w w') wB mT mR N := by
  have h1 := h.far hc hO
  refine ⟨h.pg.to hc (fun k hk _ => (hO k hk).1) (fun k hl hk => ?_) (fun k hk => ?_), h1.bk, h1.mt, h1.mr, h1.ne, .inl h1.fB, .inl h1.fT, .inl h1.fR, h1.tok, h1.rok⟩
  · rcases hk with hk | hk
    · exact hk
    · omega
  · rcases hk with hk | hk
    · exact Nat.lt_of_lt_of_le (h.pg.F_lt k hk) hc.size
    · exact hk.2
theorem WrM.notT {w : World} {G : Gr} {X : Gx} {wB mT mR : Nat} {N : Gr.Nms} (h : WrM w G X F wB mT mR N) {k : Nat} {cs : Array Value} {fr : Nat × Nat} (hk : w.heap[k]? = some (.cells cs 27 fr)) : k ≠ wB ∧ k ≠ mT ∧ k ≠ mR := by
  refine ⟨fun e => ?_, fun e => ?_, fun e => ?_⟩
  · have := h.bk
    rw [← e, hk] at this
    simp at this
  · obtain ⟨es, c, this, _⟩ := h.mt
    rw [← e, hk] at this
    cases this
  · obtain ⟨es, c, this, _⟩ := h.mr
    rw [← e, hk] at this
    cases this
/-- What answers has come to. -/
structure AnW (w w1 wr : World) (G : Gr) (X : Gx) (F' : Nat → Prop) (wB mT mR : Nat) (l : List Nat) (out : List Ty.P) (i : Nat) (N : Gr.Nms) (es : List Ent) (v : Value) : Prop where
  wm : WrM wr G X F' wB mT mR N
  vf : ∀ k, v.ownBlock = some k → F' k
  oi : OutI w1.heap.size wr v es
  eo : es.map (·.1) = out.take i
  el : es.length = i
  ta : ToldAll G (l.drop i) N (out.drop i)
  nl : N.t.length + N.r.length ≤ 300 * i
  ch : Ch (X.own G.n) w wr
  sz : w1.heap.size ≤ wr.heap.size
theorem AnW.next {w w1 wr w2 w5 : World} {G : Gr} {X : Gx} {F' : Nat → Prop} {wB mT mR : Nat} {l : List Nat} {out : List Ty.P} {i : Nat} {N N' : Gr.Nms} {es : List Ent} {v v5 : Value} (h : AnW w w1 wr G X F' wB mT mR l out i N es v) (hlo : ∀ k, ownW X G.n mT mR k → k < w1.heap.size) (hw : w.heap.size ≤ w1.heap.size) (lT : w.heap.size ≤ mT) (lR : w.heap.size ≤ mR)
    {t : Ty.P} {os az : Value} {o : List Ty.P} (hd : out.drop i = t :: o) (hta : ToldAll G (l.drop (i + 1)) N' o) (hnl : N'.t.length + N'.r.length ≤ N.t.length + N.r.length + t.parts) (hpt : t.parts ≤ 300) (hr2 : Rb wr.heap.size w2 t os az) (hm2 : WrM w2 G X F' wB mT mR N') (hc2 : Ch (ownW X G.n mT mR) wr w2)
    (hrow : w5.ownsRow 0 27 5 v5 (es.length + 1) (es.flatMap Ent.cells ++ tyC t.kind t.num t.row os az)) (hgrow : (w2.alloc (tyB t.kind t.num t.row os az)).grownBy w5 v.ownBlock) (hblk : v5.ownBlock = v.ownBlock ∨ v5.ownBlock = some (w2.alloc (tyB t.kind t.num t.row os az)).heap.size) :
    AnW w w1 w5 G X (Fg F' (w2.alloc (tyB t.kind t.num t.row os az)) w5) wB mT mR l out (i + 1) N' (es ++ [(t, os, az)]) v5 := by
  have ca := al_ch w2 (tyB t.kind t.num t.row os az)
  have c5 : Ch (fun k => v.ownBlock = some k) (w2.alloc (tyB t.kind t.num t.row os az)) w5 := Ch.grown hgrow (fun k hk => hk)
  have hO2 := h.oi.ch hc2 hlo
  have hO3 := hO2.ch ca (fun _ h => h.elim)
  have hz := hc2.size
  have hsz := h.sz
  have hz3 : (w2.alloc (tyB t.kind t.num t.row os az)).heap.size = w2.heap.size + 1 := by simp
  have hm3 := hm2.quiet ca
  have hm5 := hm3.farG c5 (fun k hk => ⟨h.vf k hk, by
    obtain ⟨cs, fr, e⟩ := Tb.row hO3.row k hk
    exact hm3.notT e⟩)
  refine ⟨hm5, fun k hk => ?_, hO3.app hr2 h.sz (by omega) (fun k _ h2 => ca.same k h2 (fun h => h)) (fun k hk => .inl (ownsRow_lt h.oi.row hk)) hrow hgrow hblk (by omega), ?_, by simp [h.el], ?_, by have := h.nl; omega, ?_, by have := c5.size; omega⟩
  · rcases hblk with e | e
    · exact .inl (h.vf k (e ▸ hk))
    · rw [e] at hk
      cases hk
      exact .inr ⟨Nat.le_refl _, ownsRow_lt hrow e⟩
  · have hi : out[i]? = some t := by
      have := congrArg List.head? hd
      rw [List.head?_drop] at this
      exact this
    rw [List.map_append, h.eo, List.take_add_one, hi]
    rfl
  · have : out.drop (i + 1) = o := by
      rw [← List.drop_drop, hd]
      rfl
    rw [this]
    exact hta
  · refine ((h.ch.trans hc2 (fun k hk => ?_)).trans ca (fun _ h => h.elim)).trans c5 (fun k hk => .inr (by have := h.oi.blk k hk; omega))
    rcases hk with hk | rfl | rfl
    · exact .inl hk
    · exact .inr lT
    · exact .inr lR

set_option maxRecDepth 100000 in
set_option maxHeartbeats 8000000 in
theorem answers_any {T : Nat} (hT : T < 100000000) {G : Gr} (hG : G.OK) (hB : G.Bd T) {w : World} {X : Gx} {sb : Nat} {vT vR sv : Value} {l : List Nat} {out : List Ty.P} (h : PG w G X F) (hl : ∀ j ∈ l, j < G.n)
    (hs : w.heap[sb]? = some (.cells #[vT, vR, sv] 52 (0, 0))) (hA : ArgsT w (fun _ => False) sv (l.map X.pi)) (hn : l.length ≤ 20) (ho : ToldAll G l ⟨[], []⟩ out) (hp : ∀ t ∈ out, t.parts ≤ 300) :
    Calls Try.prog 12 #[.pointer (some ⟨sb, 0, none⟩)] w fun e w' => ∃ v, e = .returned v ∧ TysV w' v out ∧ Ch (X.own G.n) w w' := by
  obtain ⟨sa, ca, hsv, -⟩ := hA.sl
  subst hsv
  rw [List.length_map] at hA hs
  have HW := NewWriter_any h
  replace h := hid h
  replace hl := hid hl
  replace hA := hid hA
  replace hs := hid hs
  replace ho := hid ho
  replace hp := hid hp
  go_enter Try.func12, Try.ntmps12
  go_upto_region 3 with (go_at_call 20; refine HW.mono ?_; clear HW; rintro e w1 ⟨wB, mT, mR, F1, rfl, hm1, hc1, hsub, lB, lT, lR⟩; replace hm1 := hid hm1; replace hc1 := hid hc1; replace hsub := hid hsub)
  have hs1 := (hc1.out.same _ (Array.getElem?_eq_some_iff.1 hs.out).1 (fun h => h)).trans hs.out
  have c2 : w1.cell? ⟨sb, 2, none⟩ = some (.slice sa l.length ca) := by rw [cellB hs1]; rfl
  clear hs1
  go_upto_region 4 with (fail)
  have hlo : Hid (∀ k, ownW X G.n mT mR k → k < w1.heap.size) := fun k hk => hm1.out.lt hk
  have hA0 : Hid (AnW w w1 w1 G X F1 wB mT mR l out 0 ⟨[], []⟩ [] (.slice none 0 0)) := ⟨hm1.out, (fun k hk => by cases hk), OutI.nil _ _, by simp, rfl, by simpa using ho.out, Nat.le_refl _, hc1.out.mono (fun _ h => h.elim), Nat.le_refl _⟩
  have hww := hc1.out.size
  clear c2 hm1 hc1 hsub ho lB
  go_loopg [13, 3] (l.length + 1) (fun q v13 v3 wr => ∃ (i : Nat) (F' : Nat → Prop) (N : Gr.Nms) (es : List Ent), v13 = .int .i64 (i : Nat) ∧ i ≤ l.length ∧ q = l.length + 1 - i ∧ Hid (AnW w w1 wr G X F' wB mT mR l out i N es v3))
  case atStart => exact ⟨0, F1, _, [], rfl, by omega, by omega, hA0⟩
  case round =>
    clear hA0
    obtain ⟨i, F', N, es, rfl, hi, rfl, hW⟩ := hrel
    by_cases e : i < l.length
    · have i0 : (0 : Int) ≤ i := by omega
      have i1 : (i : Int) < (l.length : Int) := by omega
      have hwi : IntKind.i64.wrap ((i : Int) + 1) = (i : Int) + 1 := IntWalk.i64_in _ (by omega)
      have hA2 := hA.out.keep hW.out.ch h.out.tg
      obtain ⟨g, o, hsg, ce⟩ := hA2.at (i := i) (b := X.pi l[i]) (by rw [List.getElem?_map, List.getElem?_eq_getElem e]; rfl)
      subst hsg
      have hta := hW.out.ta
      rw [List.drop_eq_getElem_cons e] at hta
      obtain ⟨k, t, N', oo, htold, hta2, hd⟩ := hta
      have hpt : t.parts ≤ 300 := hp.out t (List.mem_of_mem_drop (i := i) (by rw [hd]; simp))
      have HT := Write_any hT hG hB k hW.out.wm (hl.out _ (List.getElem_mem e)) htold (by have := hW.out.nl; omega)
      have hnl := Un.Gr.told_len G _ _ _ _ _ htold
      obtain ⟨va, vc, hv3, _⟩ := row_slice hW.out.oi.row
      rename_i v3
      subst hv3
      replace hta2 := hid hta2
      replace hd := hid hd
      replace htold := hid htold
      replace hnl := hid hnl
      clear hA2
      generalize l[i] = j at *
      go_upto_region 7 with first | (go_at_call 21; refine HT.mono ?_; clear HT; rintro e w2 ⟨os, az, rfl, hr2, hm2, hc2, -⟩; obtain ⟨⟨oa1, on1, oc1, hos⟩, ⟨aa1, an1, ac1, haz⟩⟩ := And.intro hr2.so hr2.sa; subst hos haz; obtain ⟨v5, w5, hr5, hrow, hgrow, hblk⟩ := run_append_ty (w := w2.alloc (tyB t.kind t.num t.row (.slice oa1 on1 oc1) (.slice aa1 an1 ac1))) (((hW.out.oi.ch hc2 hlo.out).ch (al_ch w2 (tyB t.kind t.num t.row (.slice oa1 on1 oc1) (.slice aa1 an1 ac1))) (fun _ h => h.elim)).row) (World.alloc_heap_new w2 _) ⟨_, _, _, rfl⟩ ⟨_, _, _, rfl⟩ (by have := hW.out.el; omega) 25; have hnx := hid (hW.out.next hlo.out hww lT lR hd.out hta2.out hnl.out hpt hr2 hm2 hc2 hrow hgrow hblk); obtain ⟨a5, k5, hv5, _⟩ := row_slice hrow; subst hv5; clear hr2 hm2 hc2 hrow hgrow hblk) | (at_builtin; refine wpList_append_run rfl (.tmp 17) (.tmp 21) 25 rfl rfl rfl hr5 ?_; clear hr5)
      go_wp2
      go_roundg (l.length - i)
      case measure => omega
      case rel => exact ⟨i + 1, _, N', es ++ [(t, .slice oa1 on1 oc1, .slice aa1 an1 ac1)], by simp, by omega, by omega, hnx⟩
    · obtain rfl : i = l.length := by omega
      have i1 : ¬ (l.length : Int) < (l.length : Int) := by omega
      go_wp2
      go_ret
      refine ⟨_, rfl, ?_, hW.out.ch⟩
      have ht := hW.out.oi.tys
      rw [hW.out.eo] at ht
      have hta := hW.out.ta
      rw [List.drop_length] at hta
      have h0 : out.drop l.length = [] := hta
      rw [List.drop_eq_nil_iff] at h0
      rw [List.take_of_length_le h0] at ht
      exact ht
end Go.Proofs.Ytcogpcalghfghaa

namespace Go.Proofs.Ytcogpcalghfghaa
open Go.RowKit
open Un (Bag Nm Gr St put rvOf bagL Answers)
open Un.Answers (ToldAll)
variable {F : Nat → Prop}

namespace Un.Gr
variable {G : Gr}
theorem whole_none (hG : G.OK) {i : Nat} (hi : i < G.n) (hk : G.kind i ≠ 6) : (G.whole i).1 = [] := by
  obtain ⟨h1, h2⟩ := hG.row_none i hi hk
  unfold Gr.whole
  rw [h1, h2]
theorem len_two {α : Type} {l : List α} (h : l.length = 2) : ∃ x y, l = [x, y] := by
  match l, h with
  | [x, y], _ => exact ⟨x, y, rfl⟩
theorem kid_list (hG : G.OK) {r k : Nat} (hr : r < G.n) (hk : G.kind r = k) : (G.kids r).length = Gr.arity k := by rw [hG.kids_len r hr, hk]
theorem told_parts (hG : G.OK) : ∀ {k i : Nat} {N N' : Nms} {t : Ty.P}, i < G.n → G.told k i N = some (t, N') → G.Parts i t.parts := by
  intro k
  induction k with
  | zero => intro i N N' t _ h; cases h
  | succ k ih =>
    intro i N N' t hi h
    have hr := hG.rep_lt i hi
    have nil : ∀ q, G.kind (G.rep i) = q → Gr.arity q = 0 → q ≠ 6 → G.Parts i 1 := by
      intro q hq ha h6
      have hl := kid_list hG hr hq
      rw [ha, List.length_eq_zero_iff] at hl
      have := Parts.mk (G := G) (i := i) (s := 0) (by rw [hl]; rfl)
      rwa [whole_none hG hr (by omega)] at this
    rw [told] at h
    split at h
    · rename_i hk
      cases h
      exact nil 0 hk rfl (by decide)
    split at h
    · rename_i hk
      cases h
      exact nil 1 hk rfl (by decide)
    split at h
    · rename_i hk
      cases h
      exact nil 2 hk rfl (by decide)
    split at h
    · rename_i hk
      cases h
      exact nil 3 hk rfl (by decide)
    split at h
    · rename_i hk
      obtain ⟨⟨a, M⟩, ha, e⟩ := Option.map_eq_some_iff.1 h
      cases e
      have hl := kid_list hG hr hk
      obtain ⟨x, hx⟩ := List.length_eq_one_iff.1 (show (G.kids (G.rep i)).length = 1 from hl)
      rw [hx] at ha
      have hp := ih (hG.kids_lt _ hr x (by rw [hx]; simp)) ha
      have := Parts.mk (G := G) (i := i) (s := a.parts + 0) (by rw [hx]; exact ⟨_, _, hp, rfl, rfl⟩)
      rw [whole_none hG hr (by omega)] at this
      exact this
    split at h
    · rename_i hk
      obtain ⟨⟨a, M⟩, ha, h⟩ := Option.bind_eq_some_iff.1 h
      obtain ⟨⟨b, M2⟩, hb, e⟩ := Option.map_eq_some_iff.1 h
      cases e
      have hl := kid_list hG hr hk
      obtain ⟨x, y, hx⟩ := len_two (show (G.kids (G.rep i)).length = 2 from hl)
      rw [hx] at ha hb
      have hp := ih (hG.kids_lt _ hr x (by rw [hx]; simp)) ha
      have hq := ih (hG.kids_lt _ hr y (by rw [hx]; simp)) hb
      have := Parts.mk (G := G) (i := i) (s := a.parts + (b.parts + 0)) (by rw [hx]; exact ⟨_, _, hp, ⟨_, _, hq, rfl, rfl⟩, rfl⟩)
      rw [whole_none hG hr (by omega)] at this
      have e : (Ty.P.pair a b).parts = 1 + (a.parts + (b.parts + 0)) + ([] : List Nm).length := by simp only [Ty.P.parts, List.length_nil]; omega
      rw [e]
      exact this
    · rename_i h0 h1 h2 h3 h4 h5
      have hk : G.kind (G.rep i) = 6 := by
        have := hG.kind_le _ hr
        omega
      obtain ⟨⟨a, M⟩, ha, h⟩ := Option.bind_eq_some_iff.1 h
      obtain ⟨⟨b, M2⟩, hb, e⟩ := Option.map_eq_some_iff.1 h
      cases e
      have hl := kid_list hG hr hk
      obtain ⟨x, y, hx⟩ := len_two (show (G.kids (G.rep i)).length = 2 from hl)
      rw [hx] at ha hb
      have hp := ih (hG.kids_lt _ hr x (by rw [hx]; simp)) ha
      have hq := ih (hG.kids_lt _ hr y (by rw [hx]; simp)) hb
      have := Parts.mk (G := G) (i := i) (s := a.parts + (b.parts + 0)) (by rw [hx]; exact ⟨_, _, hp, ⟨_, _, hq, rfl, rfl⟩, rfl⟩)
      simp only [Ty.P.parts]
      have e : 1 + (G.whole (G.rep i)).1.length + a.parts + b.parts = 1 + (a.parts + (b.parts + 0)) + (G.whole (G.rep i)).1.length := by omega
      rw [e]
      exact this
end Un.Gr

theorem told_all_some {G : Gr} (hG : G.OK) : ∀ (l : List Nat) (N : Gr.Nms), (∀ j ∈ l, j < G.n ∧ ∃ s, G.Parts j s ∧ s ≤ 300) → ∃ out, ToldAll G l N out ∧ out.length = l.length ∧ ∀ t ∈ out, t.parts ≤ 300 := by
  intro l
  induction l with
  | nil => intro N _; exact ⟨[], rfl, rfl, fun t ht => by cases ht⟩
  | cons j l ih =>
    intro N h
    obtain ⟨hj, s, ⟨k, hs⟩, h3⟩ := h j (by simp)
    obtain ⟨⟨t, N'⟩, ht⟩ := Un.Gr.told_some hG hj hs N
    obtain ⟨o, h1, h2, h4⟩ := ih N' (fun x hx => h x (by simp [hx]))
    refine ⟨t :: o, ⟨k, t, N', o, ht, h1, rfl⟩, by simp [h2], fun x hx => ?_⟩
    rcases List.mem_cons.1 hx with rfl | hx
    · have := (Un.Gr.told_parts hG hj ht).one ⟨k, hs⟩
      omega
    · exact h4 x hx

/-- What add's answer says. -/
theorem AdP.say {w0 : World} {S : St} {mT mR sb : Nat} {l : List Nat} {pa pb : Ty.P} {e : Ending} {w' : World} (h : AdP w0 S mT mR sb l pa pb e w') :
    ∃ k : Nat, e = .returned (.int .i64 k) ∧ Ch (fun _ => False) w0 w' ∧
      ((k ≠ 0 ∧ ∀ r i, Answers ((pa, pb) :: r) i S l [] (k, i)) ∨
        (k = 0 ∧ ∃ S' Y F' j, SOL w0 w' S' Y F' mT mR sb (l ++ [j]) ∧ (∀ x ∈ l ++ [j], ∃ s, S'.G.Parts x s ∧ s ≤ 300) ∧ ∀ r i out f, Answers r (i + 1) S' (l ++ [j]) out f → Answers ((pa, pb) :: r) i S l out f)) := by
  obtain ⟨hc, h1, h2⟩ := h
  cases hu : Gr.uni ((put pb (put pa S).2).2.G.n + 1) (put pb (put pa S).2).2.G (put pa S).1 (put pb (put pa S).2).1 with
  | none =>
    refine ⟨8, h1 hu, hc, .inl ⟨by decide, fun r i => ?_⟩⟩
    unfold Answers
    simp only [hu]
    exact ⟨trivial, trivial⟩
  | some H =>
    rcases h2 H hu with ⟨rfl, hn⟩ | ⟨rfl, he, hb⟩ | ⟨rfl, hp, Y, F', hS⟩
    · refine ⟨8, rfl, hc, .inl ⟨by decide, fun r i => ?_⟩⟩
      unfold Answers
      simp only [hu]
      exact .inl ⟨hn, trivial, trivial⟩
    · refine ⟨10, rfl, hc, .inl ⟨by decide, fun r i => ?_⟩⟩
      unfold Answers
      simp only [hu]
      exact .inr (.inl ⟨he, hb, trivial, trivial⟩)
    · refine ⟨0, rfl, hc, .inr ⟨rfl, _, Y, F', _, hS, hp, fun r i out f ho => ?_⟩⟩
      unfold Answers
      simp only [hu]
      exact .inr (.inr ⟨hp, ho⟩)
theorem CpP.say {w : World} {n : Nat} {A B : Nat → Raw} {en : Ending} {w' : World} (h : CpP w n A B en w') :
    ∃ k a : Nat, en = .returned (flt k a) ∧ Ch (fun _ => False) w w' ∧ ((k = 0 ∧ a = 0 ∧ n ≤ 20 ∧ AllP w n A B) ∨ (k = 11 ∧ a = 20 ∧ 20 < n) ∨ (k = 11 ∧ n ≤ 20 ∧ a < n ∧ AllP w a A B ∧ ¬ (PropR w (A a) ∧ PropR w (B a)))) := by
  obtain ⟨hc, ⟨rfl, h⟩ | ⟨rfl, h⟩ | ⟨j, rfl, h⟩⟩ := h
  · exact ⟨0, 0, rfl, hc, .inl ⟨rfl, rfl, h⟩⟩
  · exact ⟨11, 20, rfl, hc, .inr (.inl ⟨rfl, rfl, h⟩)⟩
  · exact ⟨11, j, rfl, hc, .inr (.inr ⟨rfl, h⟩)⟩
theorem SOL.quiet {w0 w w' : World} {S : St} {X : Gx} {mT mR sb : Nat} {l : List Nat} (h : SOL w0 w S X F mT mR sb l) (hc : Ch (fun _ => False) w w') : SOL w0 w' S X F mT mR sb l := by
  obtain ⟨v, h1, h2, h3⟩ := h.sv
  exact ⟨h.vm.quiet hc, h.ok, h.bd, h.ps.step hc (fun _ h => h.elim), h.ch.trans hc (fun _ h => h.elim), h.sF, h.sl, h.own, ⟨v, hc.keeps h1 (fun h => h), ownsRow_keep h2 (fun k hk => hc.same k (ownsRow_lt h2 hk) (fun h => h)), h3⟩, h.ll, h.rd⟩

theorem MB.empty {w : World} {b : Nat} (h : w.heap[b]? = some (.map #[] 0)) : MB w b [] := ⟨#[], 0, h, rfl⟩
/-- No nodes, no variables: what the blocks of F say does not matter. -/
theorem PG.empty {w : World} {F : Nat → Prop} (h : ∀ k, F k → k < w.heap.size) : PG w Un.emptyG ⟨id, id, fun _ => 0, fun _ => none, fun _ => 0, fun _ => 0, fun _ => 0, fun _ => 0⟩ F where
  F_lt := h
  pi_inj i j hi := absurd hi (Nat.not_lt_zero i)
  ps_inj r s b hr := by cases hr
  root_lt i hi := absurd hi (Nat.not_lt_zero i)
  root_rep i hi := absurd hi (Nat.not_lt_zero i)
  root_one i j hi := absurd hi (Nat.not_lt_zero i)
  root_kind i hi := absurd hi (Nat.not_lt_zero i)
  node i hi := absurd hi (Nat.not_lt_zero i)
  rest r b hr := by cases hr
  ps_lt r b hr := by cases hr
  ps_W r b hr := by cases hr
  ps_no r hr _ := rfl
  mb := Nat.le_refl _
/-- The solver at its start. -/
theorem SOL.start {w0 w : World} {mT mR sb : Nat} (hc : Ch (fun _ => False) w0 w) (hT : w.heap[mT]? = some (.map #[] 0)) (hR : w.heap[mR]? = some (.map #[] 0)) (ne : mT ≠ mR) (lT : w0.heap.size ≤ mT) (lR : w0.heap.size ≤ mR) (lS : w0.heap.size ≤ sb)
    (hs : w.heap[sb]? = some (.cells #[.map (some mT), .map (some mR), .slice none 0 0] 52 (0, 0))) :
    SOL w0 w ⟨Un.emptyG, []⟩ ⟨id, id, fun _ => 0, fun _ => none, fun _ => 0, fun _ => 0, fun _ => 0, fun _ => 0⟩ (fun k => k < w.heap.size) mT mR sb [] := by
  have lt : ∀ {k : Nat} {o : Obj}, w.heap[k]? = some o → k < w.heap.size := fun h => (Array.getElem?_eq_some_iff.1 h).1
  refine ⟨⟨PG.empty (fun k hk => hk), lt hT, lt hR, ne, ⟨[], MB.empty hT, fun n => rfl⟩, ⟨[], MB.empty hR, fun n _ => rfl⟩⟩, ⟨Un.empty_ok, Nat.le_refl _, fun p hp => by cases hp⟩, ?_, ⟨hc.size, fun k hk => hc.same k hk (fun h => h), lT, lR⟩, hc, lt hs, lS, ?_, ⟨_, hs, World.ownsRow_nil _ _ _ _, fun k hk => by cases hk⟩, (fun j hj => by cases hj), (fun i hi => absurd hi (Nat.not_lt_zero i))⟩
  · exact ⟨[], ⟨fun i hi => absurd hi (Nat.not_lt_zero i), fun r _ => Nat.zero_le _⟩, Nat.le_refl _⟩
  · rintro k (⟨i, hi, _⟩ | ⟨r, hr⟩)
    · exact absurd hi (Nat.not_lt_zero i)
    · cases hr
end Go.Proofs.Ytcogpcalghfghaa

namespace Go.Proofs.Ytcogpcalghfghaa
open Go.RowKit
open Un (Bag Nm Gr St put rvOf bagL Answers)
open Un.Answers (ToldAll)

set_option maxHeartbeats 4000000 in
/-- No variables. -/
theorem NewVars_any (w : World) :
    Calls Try.prog 10 #[] w fun e w' => ∃ mT mR, e = .returned (.agg #[.map (some mT), .map (some mR)]) ∧ w'.heap[mT]? = some (.map #[] 0) ∧ w'.heap[mR]? = some (.map #[] 0) ∧ mT ≠ mR ∧ w.heap.size ≤ mT ∧ w.heap.size ≤ mR ∧ Ch (fun _ => False) w w' := by
  have hm1 := fun w' : World => run_makeMap_plain (P := Try.prog) (w := w') 45
  have hm2 := fun w' : World => run_makeMap_plain (P := Try.prog) (w := w') 46
  go_enter Try.func10, Try.ntmps10
  go_wp2
  have hc1 := al_ch w (.cells #[.map (some (w.heap.size + 1)), .map (some (w.heap.size + 1 + 1))] 48)
  have hc2 := al_ch (w.alloc (.cells #[.map (some (w.heap.size + 1)), .map (some (w.heap.size + 1 + 1))] 48)) (.map #[] 0)
  have hc3 := al_ch ((w.alloc (.cells #[.map (some (w.heap.size + 1)), .map (some (w.heap.size + 1 + 1))] 48)).alloc (.map #[] 0)) (.map #[] 0)
  have hc := (hc1.trans hc2 (fun _ h => h.elim)).trans hc3 (fun _ h => h.elim)
  have b0 := World.alloc_heap_new w (.cells #[.map (some (w.heap.size + 1)), .map (some (w.heap.size + 1 + 1))] 48)
  have b1 := World.alloc_heap_new (w.alloc (.cells #[.map (some (w.heap.size + 1)), .map (some (w.heap.size + 1 + 1))] 48)) (.map #[] 0)
  have b2 := World.alloc_heap_new ((w.alloc (.cells #[.map (some (w.heap.size + 1)), .map (some (w.heap.size + 1 + 1))] 48)).alloc (.map #[] 0)) (.map #[] 0)
  obtain ⟨l0, l1, l2, l3⟩ := flt_cells (blk_alloc (x := .map #[] 0) (blk_alloc (x := .map #[] 0) b0))
  rw [World.size_alloc] at b1
  rw [World.size_alloc, World.size_alloc] at b2
  refine bodyPost_ret (v := .agg #[.map (some (w.heap.size + 1)), .map (some (w.heap.size + 1 + 1))]) (by simp [results, Try.results10, go_sem, l0, l1, l2, l3]) rfl ⟨_, _, rfl, blk_alloc b1, b2, by omega, by omega, by omega, hc⟩

/-- What Solve answers. -/
def PSP (w : World) (n : Nat) (A B : Nat → Raw) (ps : List (Ty.P × Ty.P)) (en : Ending) (w' : World) : Prop :=
  (20 < n ∧ SolvePost w 11 20 en w') ∨
  (n ≤ 20 ∧ ∃ j, j < n ∧ AllP w j A B ∧ ¬ (PropR w (A j) ∧ PropR w (B j)) ∧ SolvePost w 11 j en w') ∨
  (n ≤ 20 ∧ AllP w n A B ∧ ∃ out fk fa, Answers ps 0 ⟨Un.emptyG, []⟩ [] out (fk, fa) ∧ (∀ t ∈ out, t.parts ≤ 300) ∧ SolveRet w out fk fa en w')
/-- The loop's state. -/
structure SvI (w wr : World) (sb : Nat) (ps : List (Ty.P × Ty.P)) (i : Nat) (S : St) (X : Gx) (F : Nat → Prop) (mT mR : Nat) (l : List Nat) : Prop where
  sol : SOL w wr S X F mT mR sb l
  len : l.length = i
  pt : ∀ x ∈ l, ∃ s, S.G.Parts x s ∧ s ≤ 300
  an : ∀ out f, Answers (ps.drop i) i S l out f → Answers ps 0 ⟨Un.emptyG, []⟩ [] out f
theorem SvI.next {w wr w' : World} {sb : Nat} {ps : List (Ty.P × Ty.P)} {i : Nat} {S S' : St} {X Y : Gx} {F F' : Nat → Prop} {mT mR j : Nat} {l : List Nat} (h : SvI w wr sb ps i S X F mT mR l) {pa pb : Ty.P} (hp : ps[i]? = some (pa, pb)) (hs : SOL w w' S' Y F' mT mR sb (l ++ [j])) (hq : ∀ x ∈ l ++ [j], ∃ s, S'.G.Parts x s ∧ s ≤ 300) (ha : ∀ r i out f, Answers r (i + 1) S' (l ++ [j]) out f → Answers ((pa, pb) :: r) i S l out f) :
    SvI w w' sb ps (i + 1) S' Y F' mT mR (l ++ [j]) := by
  refine ⟨hs, by simp [h.len], hq, fun out f ho => h.an out f ?_⟩
  obtain ⟨hi, e⟩ := List.getElem?_eq_some_iff.1 hp
  rw [List.drop_eq_getElem_cons hi, e]
  exact ha _ _ _ _ ho
theorem SvI.bad {w wr : World} {sb : Nat} {ps : List (Ty.P × Ty.P)} {i k : Nat} {S : St} {X : Gx} {F : Nat → Prop} {mT mR : Nat} {l : List Nat} (h : SvI w wr sb ps i S X F mT mR l) {pa pb : Ty.P} (hp : ps[i]? = some (pa, pb)) (ha : ∀ r i, Answers ((pa, pb) :: r) i S l [] (k, i)) : Answers ps 0 ⟨Un.emptyG, []⟩ [] [] (k, i) := by
  refine h.an _ _ ?_
  obtain ⟨hi, e⟩ := List.getElem?_eq_some_iff.1 hp
  rw [List.drop_eq_getElem_cons hi, e]
  exact ha _ _
theorem SvI.fin {w wr : World} {sb : Nat} {ps : List (Ty.P × Ty.P)} {S : St} {X : Gx} {F : Nat → Prop} {mT mR : Nat} {l : List Nat} (h : SvI w wr sb ps ps.length S X F mT mR l) : ∃ out, ToldAll S.G l ⟨[], []⟩ out ∧ (∀ t ∈ out, t.parts ≤ 300) ∧ Answers ps 0 ⟨Un.emptyG, []⟩ [] out (0, 0) := by
  obtain ⟨out, h1, _, h3⟩ := told_all_some h.sol.ok.g l ⟨[], []⟩ (fun j hj => ⟨h.sol.ll j hj, h.pt j hj⟩)
  refine ⟨out, h1, h3, h.an _ _ ?_⟩
  rw [List.drop_length]
  exact ⟨rfl, h1⟩

/-- What is written is what is there. -/
theorem zero_same {w : World} {x : Nat} {T : TypeId} (h : w.heap[x]? = some (.cells #[.int .i64 0, .int .i64 0] T (0, 0))) (k : Nat) : ((w.setCell ⟨x, 0, none⟩ (.int .i64 0)).setCell ⟨x, 1, none⟩ (.int .i64 0)).heap[k]? = w.heap[k]? := by
  by_cases e : k = x
  · subst e
    rw [blk_set (blk_set h), h]
    rfl
  · have c := ((Ch.refl (fun j => j = x) w).setX x 0 (.int .i64 0) (.inl rfl)).setX x 1 (.int .i64 0) (.inl rfl)
    by_cases hk : k < w.heap.size
    · exact c.same k hk e
    · have hz : ((w.setCell ⟨x, 0, none⟩ (.int .i64 0)).setCell ⟨x, 1, none⟩ (.int .i64 0)).heap.size = w.heap.size := by simp
      rw [Array.getElem?_eq_none (by omega), Array.getElem?_eq_none (by omega)]

set_option maxRecDepth 100000 in
set_option maxHeartbeats 8000000 in
theorem psolve_any (w : World) (a : Option Addr) (g o n c : Nat) (A B : Nat → Raw) (ha : n ≠ 0 → a = some ⟨g, o, none⟩) (hM : PrC w g o n A B) (ps : List (Ty.P × Ty.P))
    (hps : AllP w n A B → ps.length = n ∧ PsF w A B ps ∧ ∀ p ∈ ps, p.1.ok ∧ p.2.ok ∧ p.1.parts ≤ 300 ∧ p.2.parts ≤ 300) :
    Calls Try.prog 4 #[.slice a n c] w fun en w' => PSP w n A B ps en w' := by
  have hc0 : Hid (Ch (fun _ => False) w (w.alloc (.cells #[.int .i64 0, .int .i64 0] 30))) := al_ch w _
  have HC := pcheck_any (w.alloc (.cells #[.int .i64 0, .int .i64 0] 30)) a g o n c A B ha (hM.keep hc0.out)
  have hlf : Hid ((w.alloc (.cells #[.int .i64 0, .int .i64 0] 30)).heap[w.heap.size]? = some (.cells #[.int .i64 0, .int .i64 0] 30 (0, 0))) := World.alloc_heap_new w _
  have hfl : Hid (∀ w', Ch (fun _ => False) (w.alloc (.cells #[.int .i64 0, .int .i64 0] 30)) w' → ∀ i, i < n → (PropR w' (A i) ↔ PropR w (A i)) ∧ (PropR w' (B i) ↔ PropR w (B i))) := fun w' hc i hi =>
    ⟨prop_iff (hc0.out.trans hc (fun _ h => h.elim)) (hM.a i hi).2.rdb, prop_iff (hc0.out.trans hc (fun _ h => h.elim)) (hM.b i hi).2.rdb⟩
  replace hps := hid hps
  replace hM := hid hM
  replace ha := hid ha
  go_enter Try.func4, Try.ntmps4
  go_upto_region 1 with (fail)
  generalize w.alloc (.cells #[.int .i64 0, .int .i64 0] 30) = W0 at *
  go_upto_region 2 with (go_at_call 9; refine HC.mono ?_; clear HC; rintro en w1 hcp; obtain ⟨k, q, rfl, hc1, hcase⟩ := hcp.say; clear hcp; replace hc1 := hid hc1; replace hcase := hid hcase)
  have b1 := World.alloc_heap_new w1 (.cells #[.int .i64 k, .int .i64 q] 30)
  have hc2 : Hid (Ch (fun _ => False) W0 (w1.alloc (.cells #[.int .i64 k, .int .i64 q] 30))) := hc1.out.trans (al_ch w1 _) (fun _ h => h.elim)
  obtain ⟨l0, l1, l2, l3⟩ := flt_cells b1
  obtain ⟨m0, m1, m2, m3⟩ := flt_cells (hc2.out.keeps hlf.out (fun h => h))
  have hcw : Hid (Ch (fun _ => False) w (w1.alloc (.cells #[.int .i64 k, .int .i64 q] 30))) := hc0.out.trans hc2.out (fun _ h => h.elim)
  have hfl0 := hfl.out W0 (Ch.refl _ _)
  generalize w1.alloc (.cells #[.int .i64 k, .int .i64 q] 30) = W2 at *
  by_cases hk : k = 0
  · subst hk
    obtain ⟨rfl, hn, hP⟩ : q = 0 ∧ n ≤ 20 ∧ AllP w n A B := by
      rcases hcase.out with ⟨_, e, h1, h2⟩ | ⟨e, _⟩ | ⟨e, _⟩
      · exact ⟨e, h1, fun i hi => ⟨(hfl0 i hi).1.1 (h2 i hi).1, (hfl0 i hi).2.1 (h2 i hi).2⟩⟩
      · cases e
      · cases e
    clear hcase b1 hc1
    have HNV := NewVars_any W2
    obtain ⟨pl, pf, pok⟩ := hps.out hP
    replace pf := hid pf
    replace pok := hid pok
    replace hP := hid hP
    go_upto_region 5 with (go_at_call 10; refine HNV.mono ?_; clear HNV; rintro en w3 ⟨mT, mR, rfl, hbT, hbR, hne, lT, lR, hc3⟩; replace hbT := hid hbT; replace hbR := hid hbR; replace hne := hid hne; replace hc3 := hid hc3)
    have s02 := hc2.out.size
    have s23 := hc3.out.size
    have hcS : Hid (Ch (fun _ => False) W0 (w3.alloc (.cells #[.map (some mT), .map (some mR), .slice none 0 0] 52))) := (hc2.out.trans hc3.out (fun _ h => h.elim)).trans (al_ch w3 _) (fun _ h => h.elim)
    have hS0 : Hid (SvI W0 (w3.alloc (.cells #[.map (some mT), .map (some mR), .slice none 0 0] 52)) w3.heap.size ps 0 ⟨Un.emptyG, []⟩ ⟨id, id, fun _ => 0, fun _ => none, fun _ => 0, fun _ => 0, fun _ => 0, fun _ => 0⟩ (fun k => k < (w3.alloc (.cells #[.map (some mT), .map (some mR), .slice none 0 0] 52)).heap.size) mT mR []) :=
      ⟨SOL.start hcS.out (blk_alloc hbT.out) (blk_alloc hbR.out) hne.out (by omega) (by omega) (by omega) (World.alloc_heap_new w3 _), rfl, (fun x hx => by cases hx), fun out f h => h⟩
    clear m0 m1 m2 m3 hcw
    generalize w3.alloc (.cells #[.map (some mT), .map (some mR), .slice none 0 0] 52) = W4 at *
    generalize w3.heap.size = sb at *
    clear hbT hbR hc3 hc2
    go_wp2
    go_loopg [20] (n + 1) (fun r v20 wr => ∃ (i : Nat) (S : St) (X : Gx) (F : Nat → Prop) (l : List Nat), v20 = .int .i64 (i : Nat) ∧ i ≤ n ∧ r = n + 1 - i ∧ Hid (SvI W0 wr sb ps i S X F mT mR l))
    case atStart => exact ⟨0, _, _, _, _, rfl, by omega, by omega, hS0⟩
    case round =>
      clear hS0 hcS
      obtain ⟨i, S, X, F, l, rfl, hi, rfl, hS⟩ := hrel
      by_cases e : i < n
      · have i0 : (0 : Int) ≤ i := by omega
        have i1 : (i : Int) < (n : Int) := by omega
        obtain rfl := ha.out (by omega)
        have hcw : Hid (Ch (fun _ => False) w wr) := hc0.out.trans hS.out.sol.ch (fun _ h => h.elim)
        have hMr := hM.out.keep hcw.out
        obtain ⟨⟨a0, a1, a2, a3, a4⟩, -⟩ := hMr.a i e
        obtain ⟨⟨b0, b1, b2, b3, b4⟩, -⟩ := hMr.b i e
        clear hMr
        obtain ⟨⟨pa, pb⟩, hpi⟩ : ∃ p, ps[i]? = some p := ⟨_, List.getElem?_eq_getElem (by omega)⟩
        obtain ⟨fa, fb⟩ := pf.out i _ hpi
        obtain ⟨ka, kb, pa3, pb3⟩ := pok.out _ (List.mem_of_getElem? hpi)
        have fa0 := fits_back (j := 0) hc0.out fa
        have fb0 := fits_back (j := 0) hc0.out fb
        obtain ⟨-, ea1, ea2, ea3, ia⟩ := fa0
        obtain ⟨-, eb1, eb2, eb3, ib⟩ := fb0
        try simp only at ea1 ea2 ea3 ia eb1 eb2 eb3 ib ka kb pa3 pb3
        rw [ea1] at a0
        rw [ea2] at a1
        rw [ea3] at a2
        rw [eb1] at b0
        rw [eb2] at b1
        rw [eb3] at b2
        clear fa fb ea1 ea2 ea3 eb1 eb2 eb3
        generalize (A i).os = oa at *
        generalize (A i).az = aa at *
        generalize (B i).os = ob at *
        generalize (B i).az = ab at *
        have HADD := add_any (hS.out.sol.quiet (al_ch wr (pairB pa.kind pa.num pa.row oa aa pb.kind pb.num pb.row ob ab))) (by have := hS.out.len; omega) ⟨ka, pa3⟩ ⟨kb, pb3⟩ ia ib
        obtain ⟨qa, qc, qb, ql, qd, rfl, rfl, -⟩ := ia.slices
        obtain ⟨ra, rc, rb, rl, rd', rfl, rfl, -⟩ := ib.slices
        replace hpi := hid hpi
        clear ia ib ka kb pa3 pb3
        go_upto_region 9 with (go_at_call 11; refine HADD.mono ?_; clear HADD; rintro en w5 hadd; obtain ⟨kk, rfl, hc5, hcase⟩ := hadd.say; clear hadd; replace hc5 := hid hc5; replace hcase := hid hcase)
        by_cases hkk : kk = 0
        · subst hkk
          obtain ⟨S', Y, F', j, hS', hq', han⟩ : ∃ S' Y F' j, SOL W0 w5 S' Y F' mT mR sb (l ++ [j]) ∧ (∀ x ∈ l ++ [j], ∃ s, S'.G.Parts x s ∧ s ≤ 300) ∧ ∀ r i out f, Answers r (i + 1) S' (l ++ [j]) out f → Answers ((pa, pb) :: r) i S l out f := by
            rcases hcase.out with ⟨e, _⟩ | ⟨_, h⟩
            · exact absurd rfl e
            · exact h
          have hnx := hid (hS.out.next hpi.out hS' hq' han)
          clear hS' hq' han hcase hc5
          go_wp2
          go_roundg (n - i)
          case measure => omega
          case rel => exact ⟨i + 1, S', Y, F', l ++ [j], by simp, by omega, by omega, hnx⟩
        · have hkk' : ¬ (kk : Int) = 0 := by omega
          have hba : Hid (Answers ps 0 ⟨Un.emptyG, []⟩ [] [] (kk, i)) := by
            rcases hcase.out with ⟨_, h⟩ | ⟨e, _⟩
            · exact hS.out.bad hpi.out h
            · exact absurd e hkk
          obtain ⟨m0, m1, m2, m3⟩ := flt_cells (hc5.out.keeps hlf.out (fun h => h))
          have hcf : Hid (Ch (fun _ => False) w w5) := hc0.out.trans hc5.out (fun _ h => h.elim)
          clear hcase
          go_wp2
          refine bodyPost_ret (v := .tuple #[.slice none 0 0, flt kk i]) (by simp [results, Try.results4, go_sem, m0, m1, m2, m3]) rfl ?_
          refine .inr (.inr ⟨hn, hP.out, [], kk, i, hba.out, (fun t h => by cases h), .slice none 0 0, rfl, ⟨none, 0, rfl, fun h => absurd rfl h⟩, ?_⟩)
          exact (hcf.out.setX _ 0 _ (.inr (Nat.le_refl _))).setX _ 1 _ (.inr (Nat.le_refl _))
      · obtain rfl : i = n := by omega
        have i1 : ¬ (i : Int) < (i : Int) := by omega
        subst pl
        obtain ⟨out, o1, o2, o3⟩ := hS.out.fin
        obtain ⟨v, hsb, hrow, hvF⟩ := hS.out.sol.sv
        have hAT : ArgsT wr (fun _ => False) v (l.map X.pi) := ArgsT.of_row (by rw [List.length_map, List.map_map]; exact hrow) (fun _ _ h => h)
        have HANS := answers_any (T := 600 * l.length) (by have := hS.out.len; omega) hS.out.sol.ok.g hS.out.sol.bd hS.out.sol.vm.pg hS.out.sol.ll hsb hAT (by have := hS.out.len; omega) o1 o2
        have hfb : Hid (wr.heap[w.heap.size]? = some (.cells #[.int .i64 0, .int .i64 0] 30 (0, 0))) := hS.out.sol.ch.keeps hlf.out (fun h => h)
        have hW0 : Hid (w.heap.size < W0.heap.size) := (Array.getElem?_eq_some_iff.1 hlf.out).1
        have hcw : Hid (Ch (fun _ => False) w wr) := hc0.out.trans hS.out.sol.ch (fun _ h => h.elim)
        have how : Hid (∀ k, X.own S.G.n k → W0.heap.size ≤ k) := hS.out.sol.own
        have hww : w.heap.size ≤ W0.heap.size := hc0.out.size
        replace o3 := hid o3
        replace o2 := hid o2
        clear o1 hsb hrow hvF hAT hS
        go_wp2_with (go_at_call 12; refine HANS.mono ?_; clear HANS; rintro en w6 ⟨v6, rfl, hv6, hc6⟩; have hfb6 := hid (hc6.keeps hfb.out (fun h => by have := how.out _ h; have := hW0.out; omega)); obtain ⟨m0, m1, m2, m3⟩ := flt_cells hfb6.out; replace hv6 := hid hv6; replace hc6 := hid hc6)
        refine bodyPost_ret (v := .tuple #[v6, flt 0 0]) (by simp [results, Try.results4, go_sem, m0, m1, m2, m3]) rfl ?_
        refine .inr (.inr ⟨hn, hP.out, out, 0, 0, o3.out, o2.out, v6, rfl, hv6.out.keep (fun k _ => zero_same hfb6.out k), ?_⟩)
        have hcf : Ch (fun _ => False) w w6 := hcw.out.trans hc6.out (fun k hk => .inr (by have := how.out _ hk; omega))
        exact (hcf.setX _ 0 _ (.inr (Nat.le_refl _))).setX _ 1 _ (.inr (Nat.le_refl _))
  · have hk' : ¬ (k : Int) = 0 := by omega
    go_wp2
    go_region
    go_wp2
    refine bodyPost_ret (v := .tuple #[.slice none 0 0, flt k q]) (by simp [results, Try.results4, go_sem, m0, m1, m2, m3]) rfl ?_
    have hcf : Ch (fun _ => False) w ((W2.setCell ⟨w.heap.size, 0, none⟩ (.int .i64 k)).setCell ⟨w.heap.size, 1, none⟩ (.int .i64 q)).drew := ((hcw.out.setX _ 0 _ (.inr (Nat.le_refl _))).setX _ 1 _ (.inr (Nat.le_refl _))).trans (Ch.drew (fun _ => False) _) (fun _ h => h.elim)
    rcases hcase.out with ⟨e, _⟩ | ⟨rfl, rfl, h1⟩ | ⟨rfl, h1, h2, h3, h4⟩
    · exact absurd e hk
    · exact .inl ⟨h1, rfl, hcf⟩
    · exact .inr (.inl ⟨h1, q, h2, fun i hi => ⟨(hfl0 i (by omega)).1.1 (h3 i hi).1, (hfl0 i (by omega)).2.1 (h3 i hi).2⟩, fun h => h4 ⟨(hfl0 q h2).1.2 h.1, (hfl0 q h2).2.2 h.2⟩, rfl, hcf⟩)
end Go.Proofs.Ytcogpcalghfghaa
