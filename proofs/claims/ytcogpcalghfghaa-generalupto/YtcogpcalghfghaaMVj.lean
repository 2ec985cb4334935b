/-
  A node more in memory; the variables that were met.
  The program's Node: a type becomes a node.
-/
import Derived.Test.YtcogpcalghfghaaMVf
import Derived.Test.YtcogpcalghfghaaMSb
set_option linter.unusedVariables false
set_option linter.unusedSimpArgs false
namespace Go.Proofs.Ytcogpcalghfghaa
open Go.RowKit
open Un (Bag Nm Gr St put rvOf)
variable {F : Nat → Prop}

/-- A node more. -/
def Gx.node (X : Gx) (n nb : Nat) : Gx := { X with pi := setF X.pi n nb, root := setF X.root n n, rk := setF X.rk n 0, rd := setF X.rd n 0, pt := setF X.pt n 0 }
theorem PG.growF {w W : World} {G : Gr} {X : Gx} (h : PG w G X F) (hc : Ch F w W) : PG W G X (Fg F w W) :=
  h.to hc (fun _ h _ => h) (fun k hl hk => by
    rcases hk with hk | hk
    · exact hk
    · omega) (fun k hk => by
    rcases hk with hk | hk
    · exact Nat.lt_of_lt_of_le (h.F_lt k hk) hc.size
    · exact hk.2)
theorem PG.add {w : World} {G : Gr} {X : Gx} (hG : G.OK) (h : PG w G X F) {nb k : Nat} {av ov : Value} {rp : Option Nat} {b : Bag} {ks : List Nat} {r : Option Nat}
    (hb : w.heap[nb]? = some (.cells #[.int .i64 (k : Nat), av, ov, oP rp, .pointer none, .int .i64 0, .int .i64 0] 78 (0, 0))) (hnF : ¬ F nb) (hnew : ¬ X.own G.n nb)
    (ha : ArgsT w F av (ks.map X.pi)) (hks : ∀ j ∈ ks, j < G.n) (ho : BagT w F ov b) (hr : RestV X r rp) : PG w (G.add k ks (Un.flat b) r) (X.node G.n nb) F := by
  have hpi : ∀ i, i < G.n → (X.node G.n nb).pi i = X.pi i := fun i hi => setF_other (by omega)
  have hroot : ∀ i, i < G.n → (X.node G.n nb).root i = X.root i := fun i hi => setF_other (by omega)
  have hpn : (X.node G.n nb).pi G.n = nb := setF_same _ _ _
  have hrn : (X.node G.n nb).root G.n = G.n := setF_same _ _ _
  have hrep : ∀ i, i < G.n → (G.add k ks (Un.flat b) r).rep i = G.rep i := fun i hi => by
    show (if i = G.n then G.n else G.rep i) = _
    rw [if_neg (by omega)]
  have hrepn : (G.add k ks (Un.flat b) r).rep G.n = G.n := if_pos rfl
  have hsp : ∀ i, i < G.n + 1 → i < G.n ∨ i = G.n := fun i hi => by omega
  refine ⟨h.F_lt, fun i j hi hj e => ?_, h.ps_inj, fun i hi => ?_, fun i hi => ?_, fun i j hi hj e => ?_, fun i hi e => ?_, fun i hi => ?_, ?_, h.ps_lt, h.ps_W, h.ps_no, h.mb⟩
  · rcases hsp i hi with hi | rfl
    · rcases hsp j hj with hj | rfl
      · rw [hpi i hi, hpi j hj] at e
        exact h.pi_inj i j hi hj e
      · rw [hpi i hi, hpn] at e
        exact absurd (.inl ⟨i, hi, e⟩) hnew
    · rcases hsp j hj with hj | rfl
      · rw [hpi j hj, hpn] at e
        exact absurd (.inl ⟨j, hj, e.symm⟩) hnew
      · rfl
  · show (X.node G.n nb).root i < G.n + 1
    rcases hsp i hi with hi | rfl
    · rw [hroot i hi]; have := h.root_lt i hi; omega
    · rw [hrn]; omega
  · rcases hsp i hi with hi | rfl
    · rw [hroot i hi, hrep i hi, hrep _ (h.root_lt i hi)]
      exact h.root_rep i hi
    · rw [hrn]
  · rcases hsp i hi with hi | rfl
    · rcases hsp j hj with hj | rfl
      · rw [hrep i hi, hrep j hj] at e
        rw [hroot i hi, hroot j hj]
        exact h.root_one i j hi hj e
      · rw [hrep i hi, hrepn] at e
        have := hG.rep_lt i hi; omega
    · rcases hsp j hj with hj | rfl
      · rw [hrep j hj, hrepn] at e
        have := hG.rep_lt j hj; omega
      · rfl
  · rcases hsp i hi with hi | rfl
    · rw [hrep i hi] at e ⊢
      rw [hroot i hi]
      have e' : (if G.rep i = G.n then k else G.kind (G.rep i)) ≠ 0 := e
      have := hG.rep_lt i hi
      rw [if_neg (by omega)] at e'
      exact h.root_kind i hi e'
    · rw [hrn, hrepn]
  · have hmap : ∀ (l : List Nat), (∀ j ∈ l, j < G.n) → l.map (X.node G.n nb).pi = l.map X.pi := fun l hl => List.map_congr_left (fun j hj => hpi j (hl j hj))
    rcases hsp i hi with hi | rfl
    · obtain ⟨hf, av, ov, rp, up, b2, g1, g2, g3, g4, g5, g6, g7⟩ := h.node i hi
      have hne : i ≠ G.n := by omega
      refine ⟨by rw [hpi i hi]; exact hf, av, ov, rp, up, b2, ?_, ?_, g3, ?_, ?_, fun hu => ?_, fun q hq => ?_⟩
      · rw [hpi i hi]
        have e1 : (G.add k ks (Un.flat b) r).kind i = G.kind i := if_neg hne
        have e2 : (X.node G.n nb).rd i = X.rd i := setF_other hne
        have e3 : (X.node G.n nb).pt i = X.pt i := setF_other hne
        have e4 : up.map (X.node G.n nb).pi = up.map X.pi := by
          cases up with
          | none => rfl
          | some q => exact congrArg some (hpi q (g7 q rfl).1)
        rw [e1, e2, e3, e4]
        exact g1
      · have e1 : (G.add k ks (Un.flat b) r).kids i = G.kids i := if_neg hne
        rw [e1, hmap _ (hG.kids_lt i hi)]
        exact g2
      · have e1 : (G.add k ks (Un.flat b) r).ops i = G.ops i := if_neg hne
        rw [e1]; exact g4
      · have e1 : (G.add k ks (Un.flat b) r).rv i = G.rv i := if_neg hne
        rw [e1]; exact g5
      · rw [hroot i hi]; exact g6 hu
      · obtain ⟨q1, q2, q3⟩ := g7 q hq
        refine ⟨Nat.lt_succ_of_lt q1, by rw [hroot i hi, hroot q q1]; exact q2, ?_⟩
        have e1 : (X.node G.n nb).rk i = X.rk i := setF_other hne
        have e2 : (X.node G.n nb).rk q = X.rk q := setF_other (by omega)
        rw [e1, e2]; exact q3
    · refine ⟨by rw [hpn]; exact hnF, av, ov, rp, none, b, ?_, ?_, ho, ?_, ?_, fun _ => hrn, fun q hq => by cases hq⟩
      · rw [hpn]
        have e1 : (G.add k ks (Un.flat b) r).kind G.n = k := if_pos rfl
        have e2 : (X.node G.n nb).rd G.n = 0 := setF_same _ _ _
        have e3 : (X.node G.n nb).pt G.n = 0 := setF_same _ _ _
        rw [e1, e2, e3]
        exact hb
      · have e1 : (G.add k ks (Un.flat b) r).kids G.n = ks := if_pos rfl
        rw [e1, hmap _ hks]
        exact ha
      · exact (if_pos rfl).symm
      · have e1 : (G.add k ks (Un.flat b) r).rv G.n = r := if_pos rfl
        rw [e1]; exact hr
  · intro q c hq
    obtain ⟨hf, up, g1, g2, g3⟩ := h.rest q c hq
    refine ⟨hf, up, g1, g2, fun g hg => ?_⟩
    obtain ⟨hfg, v, bg, nx, p, q1, q2, q3, q4, q5⟩ := g3 g hg
    refine ⟨hfg, v, bg, nx, p, q1, q2, q3, q4, ?_⟩
    rw [show (G.add k ks (Un.flat b) r).W = G.W from rfl, q5]
    cases nx <;> rfl
/-- What is kept when types are made nodes. -/
structure XA (w : World) (n n' : Nat) (X Y : Gx) : Prop where
  pi : ∀ i, i < n → Y.pi i = X.pi i
  rd : ∀ B, (∀ i, i < n → X.rd i ≤ B) → ∀ i, i < n' → Y.rd i ≤ B
  ps : ∀ r b, X.ps r = some b → Y.ps r = some b
  new : ∀ k, Y.own n' k → X.own n k ∨ w.heap.size ≤ k
theorem XA.refl (w : World) (n : Nat) (X : Gx) : XA w n n X X := ⟨fun _ _ => rfl, fun _ h => h, fun _ _ h => h, fun _ h => .inl h⟩
theorem XA.trans {w w' : World} {n n' n'' : Nat} {X Y Z : Gx} (h : XA w n n' X Y) (h' : XA w' n' n'' Y Z) (hn : n ≤ n') (hs : w.heap.size ≤ w'.heap.size) : XA w n n'' X Z :=
  ⟨fun i hi => (h'.pi i (Nat.lt_of_lt_of_le hi hn)).trans (h.pi i hi), fun B hB => h'.rd B (h.rd B hB), fun r b hr => h'.ps r b (h.ps r b hr), fun k hk => by
    rcases h'.new k hk with h1 | h1
    · exact h.new k h1
    · exact .inr (Nat.le_trans hs h1)⟩
theorem XA.node {w : World} {n nb : Nat} {X : Gx} (hb : w.heap.size ≤ nb) : XA w n (n + 1) X (X.node n nb) := by
  refine ⟨fun i hi => setF_other (by omega), fun B hB i hi => ?_, fun _ _ h => h, fun k hk => ?_⟩
  · show setF X.rd n 0 i ≤ B
    unfold setF
    split
    · omega
    · exact hB i (by omega)
  · rcases hk with ⟨i, hi, e⟩ | ⟨r, hr⟩
    · have e' : setF X.pi n nb i = k := e
      unfold setF at e'
      split at e'
      · exact .inr (by omega)
      · exact .inl (.inl ⟨i, by omega, e'⟩)
    · exact .inl (.inr ⟨r, hr⟩)
theorem XA.lay {w : World} {n r pb : Nat} {X : Gx} (h : X.ps r = none) (hb : w.heap.size ≤ pb) : XA w n n X (X.lay r pb) := by
  refine ⟨fun _ _ => rfl, fun _ h => h, lay_ps h, fun k hk => ?_⟩
  rcases hk with ⟨i, hi, e⟩ | ⟨q, hq⟩
  · exact .inl (.inl ⟨i, hi, e⟩)
  · have hq' : (if q = r then some pb else X.ps q) = some k := hq
    split at hq'
    · cases hq'; exact .inr hb
    · exact .inl (.inr ⟨q, hq'⟩)
/-- The graph and the variables in memory. -/
structure VM (w : World) (S : St) (X : Gx) (F : Nat → Prop) (mT mR : Nat) : Prop where
  pg : PG w S.G X F
  fT : F mT
  fR : F mR
  ne : mT ≠ mR
  ty : ∃ l, MB w mT l ∧ ∀ n : Nat, l.lookup (n : Int) = (S.tv.lookup n).map X.pi
  ro : ∃ l, MB w mR l ∧ ∀ r : Nat, r ≤ 1000000000 → l.lookup (r : Int) = X.ps r
theorem VM.quiet {w w' : World} {S : St} {X : Gx} {mT mR : Nat} (h : VM w S X F mT mR) (hc : Ch (fun _ => False) w w') : VM w' S X F mT mR := by
  obtain ⟨l, h1, h2⟩ := h.ty
  obtain ⟨l', h3, h4⟩ := h.ro
  exact ⟨h.pg.quiet hc, h.fT, h.fR, h.ne, ⟨l, h1.keep hc (fun h => h), h2⟩, ⟨l', h3.keep hc (fun h => h), h4⟩⟩
/-- Other blocks of F were turned. -/
theorem VM.far {w w' : World} {S : St} {X : Gx} {mT mR : Nat} {O : Nat → Prop} (h : VM w S X F mT mR) (hc : Ch O w w') (hO : ∀ k, O k → F k ∧ k ≠ mT ∧ k ≠ mR) : VM w' S X (Fg F w w') mT mR := by
  obtain ⟨l, h1, h2⟩ := h.ty
  obtain ⟨l', h3, h4⟩ := h.ro
  exact ⟨h.pg.growF (hc.mono (fun k hk => (hO k hk).1)), .inl h.fT, .inl h.fR, h.ne, ⟨l, h1.keep hc (fun hk => (hO _ hk).2.1 rfl), h2⟩, ⟨l', h3.keep hc (fun hk => (hO _ hk).2.2 rfl), h4⟩⟩
theorem VM.mono {w : World} {S : St} {X : Gx} {F' : Nat → Prop} {mT mR : Nat} (h : VM w S X F mT mR) (hs : ∀ k, F' k → F k) (h1 : F' mT) (h2 : F' mR) : VM w S X F' mT mR :=
  ⟨h.pg.mono hs, h1, h2, h.ne, h.ty, h.ro⟩
theorem nil_bag (w : World) : BagT w F (.slice none 0 0) [] := ⟨⟨none, 0, rfl, fun h => absurd rfl h⟩, (fun k hk => by cases hk), (fun k hk => by cases hk), ⟨List.Pairwise.nil, fun s hs => by cases hs⟩⟩
/-- A type's kids. -/
def kidsT : Ty.P → List Ty.P
  | .list a => [a]
  | .pair a b => [a, b]
  | .fn a b _ _ => [a, b]
  | _ => []
def putAll : List Ty.P → St → List Nat × St
  | [], S => ([], S)
  | t :: l, S => ((put t S).1 :: (putAll l (put t S).2).1, (putAll l (put t S).2).2)
theorem put_all {t : Ty.P} (ht : t.kind ≠ 0) (S : St) : put t S = ((putAll (kidsT t) S).2.G.n, ⟨(putAll (kidsT t) S).2.G.add t.kind (putAll (kidsT t) S).1 t.ops (rvOf t.row), (putAll (kidsT t) S).2.tv⟩) := by
  cases t with
  | var n => exact absurd rfl ht
  | _ => rfl
theorem putAll_snoc (t : Ty.P) : ∀ (l : List Ty.P) (S : St), putAll (l ++ [t]) S = ((putAll l S).1 ++ [(put t (putAll l S).2).1], (put t (putAll l S).2).2) := by
  intro l
  induction l with
  | nil => intro S; rfl
  | cons x l ih =>
    intro S
    show ((put x S).1 :: (putAll (l ++ [t]) (put x S).2).1, (putAll (l ++ [t]) (put x S).2).2) = _
    rw [ih]
    rfl
theorem putAll_ok : ∀ (l : List Ty.P), (∀ t ∈ l, t.ok) → ∀ (S : St), S.OK → (putAll l S).2.OK ∧ (∀ j ∈ (putAll l S).1, j < (putAll l S).2.G.n) ∧ S.G.n ≤ (putAll l S).2.G.n ∧ (putAll l S).2.G.m = S.G.m ∧ (putAll l S).1.length = l.length := by
  intro l
  induction l with
  | nil => intro _ S h; exact ⟨h, (fun j hj => by cases hj), Nat.le_refl _, rfl, rfl⟩
  | cons t l ih =>
    intro hl S h
    obtain ⟨a1, a2, a3, a4, _⟩ := Un.put_ok t (hl t (by simp)) S h
    obtain ⟨b1, b2, b3, b4, b5⟩ := ih (fun x hx => hl x (by simp [hx])) _ a1
    refine ⟨b1, fun j hj => ?_, Nat.le_trans a3 b3, b4.trans a4, by show (_ :: _).length = _; simp [b5]⟩
    rcases List.mem_cons.1 hj with rfl | hj
    · exact Nat.lt_of_lt_of_le a2 b3
    · exact b2 j hj
theorem kids_ok {t : Ty.P} (h : t.ok) : ∀ x ∈ kidsT t, x.ok := by
  cases t with
  | list a => intro x hx; obtain rfl := List.mem_singleton.1 hx; exact h
  | pair a b =>
    intro x hx
    simp only [kidsT, List.mem_cons, List.not_mem_nil, or_false] at hx
    rcases hx with rfl | rfl
    · exact h.1
    · exact h.2
  | fn a b o r =>
    intro x hx
    simp only [kidsT, List.mem_cons, List.not_mem_nil, or_false] at hx
    rcases hx with rfl | rfl
    · exact h.1
    · exact h.2.1
  | _ => intro x hx; cases hx
theorem kidsT_parts {t : Ty.P} : ∀ x ∈ kidsT t, x.parts ≤ t.parts := by
  cases t with
  | list a => intro x hx; obtain rfl := List.mem_singleton.1 hx; simp only [Ty.P.parts]; omega
  | pair a b =>
    intro x hx
    simp only [kidsT, List.mem_cons, List.not_mem_nil, or_false] at hx
    rcases hx with rfl | rfl <;> (simp only [Ty.P.parts]; omega)
  | fn a b o r =>
    intro x hx
    simp only [kidsT, List.mem_cons, List.not_mem_nil, or_false] at hx
    rcases hx with rfl | rfl <;> (simp only [Ty.P.parts]; omega)
  | _ => intro x hx; cases hx
theorem kids_two (t : Ty.P) : (kidsT t).length ≤ 2 := by cases t <;> simp [kidsT]
/-- A type's Args in memory. -/
def KidsV (w : World) (az : Value) (ts : List Ty.P) : Prop := ∃ a c, az = .slice a ts.length c ∧ ∀ i t, ts[i]? = some t → ∃ g o os' az', a = some ⟨g, o, none⟩ ∧ El w g (o + i * 5) t.kind t.num t.row os' az' ∧ IsT w t os' az'
theorem IsT.gen {w : World} {t : Ty.P} {os az : Value} (h : IsT w t os az) : OpsV w os t.ops ∧ KidsV w az (kidsT t) := by
  have nul : ∀ {v}, Nul v → OpsV w v [] := fun ⟨a, c, e⟩ => ⟨a, c, e, Nat.zero_le _, fun h => absurd rfl h⟩
  have nulK : ∀ {v}, Nul v → KidsV w v [] := fun ⟨a, c, e⟩ => ⟨a, c, e, fun i t h => by simp at h⟩
  have two : ∀ {a b : Ty.P} {g o c : Nat} {os' az' os2 az2 : Value}, ElT w g o a os' az' → IsT w a os' az' → ElT w g (o + 5) b os2 az2 → IsT w b os2 az2 → KidsV w (.slice (some ⟨g, o, none⟩) 2 c) [a, b] := fun {a b g o c os' az' os2 az2} h1 h2 h3 h4 => ⟨_, c, rfl, fun i t hi => by
    rcases i with _ | _ | i
    · cases hi; exact ⟨g, o, os', az', rfl, h1, h2⟩
    · cases hi; exact ⟨g, o, os2, az2, rfl, h3, h4⟩
    · simp at hi⟩
  cases t with
  | list a =>
    obtain ⟨h0, g, o, c, os', az', rfl, _, h1, h2⟩ := h
    exact ⟨nul h0, _, c, rfl, fun i t hi => by
      rcases i with _ | i
      · cases hi; exact ⟨g, o, os', az', rfl, h1, h2⟩
      · simp [kidsT] at hi⟩
  | pair a b =>
    obtain ⟨h0, g, o, c, os', az', os2, az2, rfl, _, h1, h2, h3, h4⟩ := h
    exact ⟨nul h0, two h1 h2 h3 h4⟩
  | fn a b l r =>
    obtain ⟨h0, g, o, c, os', az', os2, az2, rfl, _, h1, h2, h3, h4⟩ := h
    exact ⟨h0, two h1 h2 h3 h4⟩
  | _ => exact ⟨nul h.1, nulK h.2⟩
theorem ops_sorted {t : Ty.P} (h : t.ok) : Un.Srt t.ops := by
  cases t with
  | fn a b o r => exact Un.srt_of h.2.2.2.2
  | _ => exact List.Pairwise.nil
theorem ops_parts (t : Ty.P) : t.ops.length ≤ t.parts := by
  cases t <;> simp only [Ty.P.ops, Ty.P.parts, List.length_nil] <;> omega
theorem row_le {t : Ty.P} (h : t.ok) : t.row ≤ 1000000000 := by
  cases t with
  | fn a b o r => exact h.2.2.1
  | _ => exact Nat.zero_le _
theorem num_zero {t : Ty.P} (h : t.kind ≠ 0) : t.num = 0 := by
  cases t with
  | var n => exact absurd rfl h
  | _ => rfl
/-- What lay in a first world stands; the maps lie behind it. -/
structure Pst (w0 w : World) (mT mR : Nat) : Prop where
  size : w0.heap.size ≤ w.heap.size
  same : ∀ k, k < w0.heap.size → w.heap[k]? = w0.heap[k]?
  t : w0.heap.size ≤ mT
  r : w0.heap.size ≤ mR
theorem Pst.step {w0 w w' : World} {mT mR : Nat} (h : Pst w0 w mT mR) {O : Nat → Prop} (hc : Ch O w w') (hO : ∀ k, O k → w0.heap.size ≤ k) : Pst w0 w' mT mR :=
  ⟨Nat.le_trans h.size hc.size, fun k hk => (hc.same k (Nat.lt_of_lt_of_le hk h.size) (fun ho => by have := hO k ho; omega)).trans (h.same k hk), h.t, h.r⟩
theorem Pst.el {w0 w : World} {mT mR : Nat} (h : Pst w0 w mT mR) {g o : Nat} {k n r : Int} {os az : Value} (hi : El w0 g o k n r os az) : El w g o k n r os az := hi.of_heap (h.same g hi.lt)
/-- The variables' blocks. -/
def Mp (mT mR k : Nat) : Prop := k = mT ∨ k = mR
def NodeOK (w0 : World) (t : Ty.P) : Prop := ∀ {w : World} {S : St} {X : Gx} {F : Nat → Prop} {mT mR : Nat} {os az : Value}, VM w S X F mT mR → S.OK → t.ok → t.parts ≤ 300 → Pst w0 w mT mR → IsT w0 t os az →
  Calls Try.prog 17 #[.agg #[.map (some mT), .map (some mR)], tyV t.kind t.num t.row os az] w fun e w' => ∃ Y, e = .returned (.pointer (some ⟨Y.pi (put t S).1, 0, none⟩)) ∧ VM w' (put t S).2 Y F mT mR ∧ XA w S.G.n (put t S).2.G.n X Y ∧ Ch (Mp mT mR) w w'
end Go.Proofs.Ytcogpcalghfghaa

namespace Go.Proofs.Ytcogpcalghfghaa
open Go.RowKit
open Un (Bag Nm Gr St put rvOf bagL)
variable {F : Nat → Prop}

theorem MB.not_cells {w : World} {mB : Nat} {l : List (Int × Nat)} (h : MB w mB l) {k : Nat} {cs : Array Value} {T : TypeId} {fr : Nat × Nat} (hk : w.heap[k]? = some (.cells cs T fr)) : k ≠ mB := by
  rintro rfl
  obtain ⟨es, c, h1, _⟩ := h
  rw [h1] at hk
  cases hk
theorem VM.apart {w : World} {S : St} {X : Gx} {mT mR : Nat} (h : VM w S X F mT mR) {k : Nat} {cs : Array Value} {T : TypeId} {fr : Nat × Nat} (hk : w.heap[k]? = some (.cells cs T fr)) : ¬ Mp mT mR k := by
  obtain ⟨l, h1, _⟩ := h.ty
  obtain ⟨l', h3, _⟩ := h.ro
  rintro (e | e)
  · exact h1.not_cells hk e
  · exact h3.not_cells hk e
theorem VM.stay {w w' : World} {S : St} {X : Gx} {mT mR : Nat} (h : VM w S X F mT mR) (hc : Ch (Mp mT mR) w w') {k : Nat} {cs : Array Value} {T : TypeId} {fr : Nat × Nat} (hk : w.heap[k]? = some (.cells cs T fr)) : w'.heap[k]? = some (.cells cs T fr) :=
  (hc.same k (Array.getElem?_eq_some_iff.1 hk).1 (h.apart hk)).trans hk
theorem BagT.maps {w w' : World} {S : St} {X : Gx} {F' : Nat → Prop} {mT mR : Nat} {v : Value} {b : Bag} (hb : BagT w F v b) (h : VM w S X F' mT mR) (hc : Ch (Mp mT mR) w w') : BagT w' F v b :=
  hb.on hc (fun k hk => by obtain ⟨cs, fr, e⟩ := hb.tb k hk; exact h.apart e)
theorem lookup_snoc {l : List (Int × Nat)} {k : Int} {b : Nat} (h : l.lookup k = none) (m : Int) : (l ++ [(k, b)]).lookup m = if m = k then some b else l.lookup m := by
  rw [List.lookup_append]
  by_cases e : m = k
  · subst e
    rw [h, if_pos rfl]
    simp [List.lookup]
  · rw [if_neg e]
    have : (m == k) = false := by simpa using e
    cases l.lookup m <;> simp [List.lookup, this]
theorem VM.var {w w' : World} {S : St} {X : Gx} {mT mR : Nat} (hS : S.OK) (h : VM w S X F mT mR) {n nb : Nat} {l : List (Int × Nat)} (hn : S.tv.lookup n = none) (hlk : ∀ n : Nat, l.lookup (n : Int) = (S.tv.lookup n).map X.pi)
    (hm : MB w' mT (l ++ [((n : Int), nb)])) (hc : Ch (fun j => j = mT) w w') (hnb : w.heap.size ≤ nb) (hb : w'.heap[nb]? = some (.cells #[.int .i64 0, .slice none 0 0, .slice none 0 0, .pointer none, .pointer none, .int .i64 0, .int .i64 0] 78 (0, 0))) :
    VM w' ⟨S.G.add 0 [] [] none, (n, S.G.n) :: S.tv⟩ (X.node S.G.n nb) F mT mR := by
  obtain ⟨l', h3, h4⟩ := h.ro
  have hpg := h.pg.far (w' := w') (hc.mono (fun k e => by rw [e]; exact h.fT))
  refine ⟨PG.add (b := []) hS.g hpg hb (fun hf => by have := h.pg.F_lt _ hf; omega) (fun ho => by have := h.pg.lt ho; omega) (ArgsT.nil w') (fun j hj => by cases hj) (nil_bag w') rfl, h.fT, h.fR, h.ne, ⟨_, hm, fun m => ?_⟩, ⟨l', h3.keep hc (fun e => h.ne e.symm), h4⟩⟩
  have hl0 : l.lookup (n : Int) = none := by rw [hlk, hn]; rfl
  rw [lookup_snoc hl0]
  show _ = Option.map (X.node S.G.n nb).pi (((n, S.G.n) :: S.tv).lookup m)
  rw [Dg.lookup_cons']
  by_cases e : m = n
  · subst e
    rw [if_pos rfl, if_pos rfl]
    show some nb = some (setF X.pi S.G.n nb S.G.n)
    rw [setF_same]
  · rw [if_neg (by omega), if_neg e, hlk]
    cases hx : S.tv.lookup m with
    | none => rfl
    | some i =>
      have := hS.tv _ (Un.lookup_mem hx)
      show some (X.pi i) = some (setF X.pi S.G.n nb i)
      rw [setF_other (by simp at this; omega)]

set_option maxRecDepth 100000 in
set_option maxHeartbeats 4000000 in
theorem Node_var (w0 : World) (n : Nat) : NodeOK w0 (.var n) := by
  intro w S X F mT mR os az h hS hok hpt hp hi
  obtain ⟨oa, oc, rfl⟩ := hi.1
  obtain ⟨aa, ac, rfl⟩ := hi.2
  have hch := al2_ch w (.cells #[.map (some mT), .map (some mR)] 48) (tyB 0 n 0 (.slice oa 0 oc) (.slice aa 0 ac))
  have hB0 := al2_old w (.cells #[.map (some mT), .map (some mR)] 48) (tyB 0 n 0 (.slice oa 0 oc) (.slice aa 0 ac))
  have hB1 : Bx _ _ _ _ _ _ _ := al2_new w (.cells #[.map (some mT), .map (some mR)] 48) (tyB 0 n 0 (.slice oa 0 oc) (.slice aa 0 ac))
  have hs : (w.alloc (.cells #[.map (some mT), .map (some mR)] 48)).heap.size = w.heap.size + 1 := by simp
  replace h := hid h
  replace hS := hid hS
  show Calls Try.prog 17 #[.agg #[.map (some mT), .map (some mR)], tyV 0 n 0 (.slice oa 0 oc) (.slice aa 0 ac)] w _
  go_enter Try.func17, Try.ntmps17
  go_upto_region 1 with (fail)
  generalize (w.alloc (.cells #[.map (some mT), .map (some mR)] 48)).alloc (tyB 0 n 0 (.slice oa 0 oc) (.slice aa 0 ac)) = W at *
  have x0 : W.cell? ⟨w.heap.size, 0, none⟩ = some (.map (some mT)) := by rw [cellB hB0]; rfl
  obtain ⟨b0, b1, b2, b3, b4⟩ := hB1.cells
  have hV := h.out.quiet hch
  obtain ⟨l, hm, hlk⟩ := hV.ty
  have HM := met_node W mT l hm (n : Int)
  replace hV := hid hV
  replace hm := hid hm
  replace hch := hid hch
  clear hB0 hB1
  cases hx : S.tv.lookup n with
  | some i =>
    have hl : l.lookup (n : Int) = some (X.pi i) := by rw [hlk, hx]; rfl
    replace hx := hid hx
    replace hlk := hid hlk
    go_wp2_with (go_at_call 24; refine HM.mono ?_; clear HM; rintro e w1 ⟨h1, -⟩; obtain ⟨rfl, hw1⟩ := h1 _ hl; obtain rfl := hw1.symm; clear h1)
    go_ret
    have e1 : put (.var n) S = (i, S) := by unfold put; rw [hx.out]
    rw [e1]
    exact ⟨X, rfl, hV.out, XA.refl w _ X, hch.out.mono (fun _ h => h.elim)⟩
  | none =>
    have hl : l.lookup (n : Int) = none := by rw [hlk, hx]; rfl
    replace hx := hid hx
    replace hlk := hid hlk
    go_wp2_with (go_at_call 24; refine HM.mono ?_; clear HM; rintro e w1 ⟨-, h1⟩; obtain ⟨rfl, m1, c1, n1⟩ := h1 hl; clear h1; replace m1 := hid m1; replace c1 := hid c1; replace n1 := hid n1)
    go_ret
    have e1 : put (.var n) S = (S.G.n, ⟨S.G.add 0 [] [] none, (n, S.G.n) :: S.tv⟩) := by unfold put; rw [hx.out]
    rw [e1]
    have hsz := hch.out.size
    refine ⟨X.node S.G.n W.heap.size, ?_, hV.out.var hS.out hx.out hlk.out m1.out c1.out (Nat.le_refl _) n1.out, XA.node hsz, (hch.out.mono (fun _ h => h.elim)).trans c1.out (fun k e => .inl (.inl e))⟩
    show _ = Ending.returned (.pointer (some ⟨setF X.pi S.G.n W.heap.size S.G.n, 0, none⟩))
    rw [setF_same]
    rfl
/-- What a row variable stands for in memory, a new one perhaps. -/
theorem met_row {w : World} {S : St} {X : Gx} {mT mR : Nat} (hS : S.OK) (h : VM w S X F mT mR) {r : Nat} (hr : r ≤ 1000000000) :
    Calls Try.prog 26 #[.map (some mR), .int .i64 (r : Nat)] w fun e w' => ∃ b Y, e = .returned (.pointer (some ⟨b, 0, none⟩)) ∧ Y.ps r = some b ∧ VM w' S Y F mT mR ∧ XA w S.G.n S.G.n X Y ∧ Ch (Mp mT mR) w w' := by
  obtain ⟨l, hm, hlk⟩ := h.ro
  obtain ⟨lT, hmT, hlT⟩ := h.ty
  refine (met_rest w mR l hm (r : Int)).mono ?_
  rintro e w' ⟨h1, h2⟩
  have hl := hlk r hr
  cases hx : X.ps r with
  | some b =>
    rw [hx] at hl
    obtain ⟨rfl, rfl⟩ := h1 b hl
    exact ⟨b, X, rfl, hx, h, XA.refl _ _ X, Ch.refl _ _⟩
  | none =>
    rw [hx] at hl
    obtain ⟨rfl, m1, c1, n1⟩ := h2 hl
    have hrm : r < S.G.m := by have := hS.big; unfold Un.big at this; omega
    have hlay : (X.lay r w.heap.size).ps r = some w.heap.size := if_pos rfl
    have hpg := h.pg.far (w' := w') (c1.mono (fun k e => by rw [e]; exact h.fR))
    refine ⟨w.heap.size, X.lay r w.heap.size, rfl, hlay, ⟨?_, h.fT, h.fR, h.ne, ⟨lT, hmT.keep c1 (fun e => h.ne e), hlT⟩, ⟨_, m1, fun q hq => ?_⟩⟩, XA.lay hx (Nat.le_refl _), c1.mono (fun k e => .inr e)⟩
    · refine hpg.lay' (Ch.refl _ _) n1 (fun q b hqb e => ?_) (fun hf => Nat.lt_irrefl _ (h.pg.F_lt _ hf)) hx rfl rfl rfl rfl rfl rfl (Nat.le_refl _) hrm (fun _ _ _ => rfl) (h.pg.ps_no r hrm hx) (fun q hq _ hqn => h.pg.ps_no q hq hqn)
      have := h.pg.lt (k := b) (.inr ⟨q, hqb⟩)
      omega
    · rw [lookup_snoc hl]
      show _ = if q = r then some w.heap.size else X.ps q
      by_cases e : q = r
      · subst e; rw [if_pos rfl, if_pos rfl]
      · rw [if_neg (by omega), if_neg e]
        exact hlk q hq
end Go.Proofs.Ytcogpcalghfghaa
