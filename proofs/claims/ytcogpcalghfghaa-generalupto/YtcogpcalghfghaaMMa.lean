/-
  Types that fit: whatever makes all pairs the same is met by what is answered; plain laws, no program is named here.
  What is answered is most general, and proper; plain laws, no program is named here.
  How names are met in order; plain laws, no program is named here.
-/
import Derived.Test.YtcogpcalghfghaaMGb
set_option linter.unusedVariables false
set_option linter.unusedSimpArgs false
namespace Go.Proofs.Ytcogpcalghfghaa
namespace Un
open Answers (ToldAll)

/-- What a row comes to. -/
abbrev RV := List Nm × Nat
def rowW (e : List Nm) (rw : Nat → RV) : Option Nat → RV
  | none => (e, 0)
  | some v => (joinB e (rw v).1, (rw v).2)
def tkids : Ty.P → List Ty.P
  | .list a => [a]
  | .pair a b => [a, b]
  | .fn a b _ _ => [a, b]
  | _ => []
theorem tparts (t : Ty.P) : t.parts = 1 + t.ops.length + ((tkids t).map Ty.P.parts).sum := by
  cases t <;> simp [Ty.P.parts, Ty.P.ops, tkids] <;> omega
/-- A node's value fits what the node says. -/
structure FitN (G : Gr) (val : Nat → Ty.P) (rw : Nat → RV) (i : Nat) : Prop where
  kind : (val i).kind = G.kind i
  kids : tkids (val i) = (G.kids i).map val
  row : ((val i).ops, (val i).row) = rowW (G.ops i) rw (G.rv i)
/-- Values for all nodes and row variables that fit. -/
structure Mod (G : Gr) (val : Nat → Ty.P) (rw : Nat → RV) : Prop where
  rep : ∀ i, i < G.n → val i = val (G.rep i)
  node : ∀ i, i < G.n → G.kind i ≠ 0 → FitN G val rw i
  W : ∀ r, r < G.m → rw r = rowW (G.W r).1 rw (G.W r).2
  srt : ∀ r, r < G.m → Srt (rw r).1

theorem rowW_ext {e : List Nm} {rw rw' : Nat → RV} {o : Option Nat} (h : ∀ v, o = some v → rw' v = rw v) : rowW e rw' o = rowW e rw o := by
  cases o with
  | none => rfl
  | some v => simp only [rowW]; rw [h v rfl]
theorem rowW_join {a e : List Nm} (ha : Srt a) {rw : Nat → RV} {o : Option Nat} : (joinB a (rowW e rw o).1, (rowW e rw o).2) = rowW (joinB a e) rw o := by
  cases o with
  | none => rfl
  | some v => simp only [rowW]; rw [joinB_assoc ha]
namespace Mod
variable {G : Gr} {val : Nat → Ty.P} {rw : Nat → RV}
theorem whole (h : Mod G val rw) (hG : G.OK) {i : Nat} (hi : i < G.n) (hk : G.kind i ≠ 0) : ((val i).ops, (val i).row) = rowW (G.whole i).1 rw (G.whole i).2 := by
  rw [(h.node i hi hk).row]
  unfold Gr.whole
  cases hr : G.rv i with
  | none => rfl
  | some r =>
    simp only [rowW]
    have := h.W r (hG.rv_lt i hi r hr)
    rw [this]
    exact rowW_join (hG.ops_srt i hi)
theorem link (h : Mod G val rw) {a b : Nat} (hab : val a = val b) : Mod (G.link a b) val rw := by
  refine ⟨fun i hi => ?_, fun i hi hk => ?_, h.W, h.srt⟩
  · show val i = val (if G.rep i = a then b else G.rep i)
    split
    · rename_i e
      rw [← hab, ← e]
      exact h.rep i hi
    · exact h.rep i hi
  · obtain ⟨h1, h2, h3⟩ := h.node i hi hk
    exact ⟨h1, h2, h3⟩
theorem stands (h : Mod G val rw) (hG : G.OK) {v : Nat} {e : List Nm} {x : Option Nat} (hx : rw v = rowW e rw x) : Mod (G.stands v e x) val rw := by
  refine ⟨h.rep, fun i hi hk => ?_, fun r hr => ?_, h.srt⟩
  · obtain ⟨h1, h2, h3⟩ := h.node i hi hk
    exact ⟨h1, h2, h3⟩
  · show rw r = rowW (if (G.W r).2 = some v then (joinB (G.W r).1 e, x) else G.W r).1 rw (if (G.W r).2 = some v then (joinB (G.W r).1 e, x) else G.W r).2
    have h0 := h.W r hr
    split
    · rename_i e1
      rw [e1] at h0
      rw [h0]
      simp only [rowW]
      rw [hx]
      exact rowW_join (hG.W_srt r hr)
    · exact h0
/-- A new row variable, with any value. -/
theorem opened (h : Mod G val rw) (hG : G.OK) (q : RV) (hq : Srt q.1) : Mod G.opened val (fun r => if r = G.m then q else rw r) := by
  have old : ∀ r, r < G.m → (if r = G.m then q else rw r) = rw r := fun r hr => if_neg (by omega)
  refine ⟨h.rep, fun i hi hk => ?_, fun r hr => ?_, fun r hr => ?_⟩
  · obtain ⟨h1, h2, h3⟩ := h.node i hi hk
    refine ⟨h1, h2, h3.trans (rowW_ext fun v hv => old v (hG.rv_lt i hi v hv)).symm⟩
  · have hr' : r < G.m + 1 := hr
    by_cases e : r = G.m
    · subst e
      rw [Gr.opened_new]
      simp only [rowW, if_true]
      rw [joinB_nil hq]
    · have hr2 : r < G.m := by omega
      rw [Gr.opened_old hr2]
      simp only [if_neg e]
      exact (h.W r hr2).trans (rowW_ext fun v hv => old v (hG.W_lt r hr2 v hv).1).symm
  · have hr' : r < G.m + 1 := hr
    show Srt (if r = G.m then q else rw r).1
    split
    · exact hq
    · exact h.srt r (by omega)
end Mod
theorem count_of {a b x y : List Nm} (h : joinB a x = joinB b y) (z : Nm) : a.count z + x.count z = b.count z + y.count z := by
  rw [← joinB_count, ← joinB_count, h]
theorem nil_of {a : List Nm} (h : ∀ z, a.count z = 0) : a = [] := by
  cases a with
  | nil => rfl
  | cons x r => have := h x; simp at this
/-- Rows with one value are made the same. -/
theorem sameRow_mod {G : Gr} {val : Nat → Ty.P} {rw : Nat → RV} (h : Mod G val rw) (hG : G.OK) {i j : Nat} (hi : i < G.n) (hj : j < G.n) (hv : rowW (G.whole i).1 rw (G.whole i).2 = rowW (G.whole j).1 rw (G.whole j).2) (s1 : Srt (G.whole i).1) (s2 : Srt (G.whole j).1) :
    ∃ H rw', G.sameRow i j = some H ∧ Mod H val rw' ∧ ∀ r, r < G.m → rw' r = rw r := by
  have W1 := fun v (e : (G.whole i).2 = some v) => Gr.whole_some hG hi e
  have W2 := fun v (e : (G.whole j).2 = some v) => Gr.whole_some hG hj e
  unfold Gr.sameRow
  simp only
  generalize G.whole i = A at *
  generalize G.whole j = B at *
  obtain ⟨a, x⟩ := A
  obtain ⟨b, y⟩ := B
  simp only at hv s1 s2 W1 W2 ⊢
  by_cases e : x = y
  · rw [if_pos e]
    subst e
    have hc : ∀ z, a.count z = b.count z := by
      intro z
      cases x with
      | none => rw [show a = b from congrArg Prod.fst hv]
      | some v =>
        have := count_of (congrArg Prod.fst hv) z
        omega
    have hab : a = b := srt_ext s1 s2 hc
    subst hab
    have hl : less a a = [] := nil_of (fun z => by rw [less_count]; omega)
    rw [if_pos ⟨hl, hl⟩]
    exact ⟨G, rw, rfl, h, fun _ _ => rfl⟩
  rw [if_neg e]
  cases x with
  | none =>
    cases y with
    | none => exact absurd rfl e
    | some w =>
      have e1 : a = joinB b (rw w).1 := congrArg Prod.fst hv
      have e2 : 0 = (rw w).2 := congrArg Prod.snd hv
      have hc : ∀ z, a.count z = b.count z + (rw w).1.count z := fun z => by rw [e1, joinB_count]
      have hl : less b a = [] := nil_of (fun z => by rw [less_count]; have := hc z; omega)
      simp only
      rw [if_pos hl]
      refine ⟨_, rw, rfl, h.stands hG ?_, fun _ _ => rfl⟩
      have : less a b = (rw w).1 := less_eq s1 (h.srt w (W2 w rfl).1) (fun z => by have := hc z; omega)
      simp only [rowW]
      rw [this, e2]
  | some v =>
    cases y with
    | none =>
      have e1 : joinB a (rw v).1 = b := congrArg Prod.fst hv
      have e2 : (rw v).2 = 0 := congrArg Prod.snd hv
      have hc : ∀ z, b.count z = a.count z + (rw v).1.count z := fun z => by rw [← e1, joinB_count]
      have hl : less a b = [] := nil_of (fun z => by rw [less_count]; have := hc z; omega)
      simp only
      rw [if_pos hl]
      refine ⟨_, rw, rfl, h.stands hG ?_, fun _ _ => rfl⟩
      have : less b a = (rw v).1 := less_eq s2 (h.srt v (W1 v rfl).1) (fun z => by have := hc z; omega)
      simp only [rowW]
      rw [this, ← e2]
    | some w =>
      have e1 : joinB a (rw v).1 = joinB b (rw w).1 := congrArg Prod.fst hv
      have e2 := congrArg Prod.snd hv
      simp only [rowW] at e2
      have hc := count_of e1
      obtain ⟨v1, v2⟩ := W1 v rfl
      obtain ⟨w1, w2⟩ := W2 w rfl
      have sv := h.srt v v1
      have sw := h.srt w w1
      have hq : Srt (less (rw v).1 (less b a)) := less_srt _ sv
      refine ⟨_, _, rfl, ((h.opened hG (less (rw v).1 (less b a), (rw v).2) hq).stands (v := v) (e := less b a) (x := some G.m) (Gr.opened_ok hG) ?_).stands (v := w) (e := less a b) (x := some G.m) ?_ ?_, fun r hr => if_neg (by omega)⟩
      · simp only [rowW, if_true]
        rw [if_neg (by omega)]
        refine Prod.ext ?_ rfl
        refine srt_ext sv (joinB_srt _ _ (less_srt _ s2)) (fun z => ?_)
        simp only [joinB_count, less_count]
        have := hc z
        omega
      · refine Gr.stands_ok (Gr.opened_ok hG) (Nat.lt_succ_of_lt v1) (fun y hy => ?_)
        obtain rfl := Option.some.inj hy
        exact ⟨Nat.lt_succ_self _, by omega, Gr.opened_new G⟩
      · simp only [rowW, if_true]
        rw [if_neg (by omega)]
        refine Prod.ext ?_ e2.symm
        refine srt_ext sw (joinB_srt _ _ (less_srt _ s1)) (fun z => ?_)
        simp only [joinB_count, less_count]
        have := hc z
        omega
/-- What has one value is made the same. -/
def UniOK (k : Nat) : Prop := ∀ (G : Gr) (val : Nat → Ty.P) (rw : Nat → RV) (a b : Nat), G.OK → Mod G val rw → a < G.n → b < G.n → val a = val b → G.roots < k →
    ∃ H rw', Gr.uni k G a b = some H ∧ Mod H val rw' ∧ ∀ r, r < G.m → rw' r = rw r
theorem each_mod {k : Nat} (ih : UniOK k) : ∀ (l r : List Nat) (G : Gr) (val : Nat → Ty.P) (rw : Nat → RV), G.OK → Mod G val rw → (∀ a ∈ l, a < G.n) → (∀ b ∈ r, b < G.n) → l.map val = r.map val → G.roots < k →
    ∃ H rw', Gr.each (Gr.uni k) l r G = some H ∧ Mod H val rw' ∧ ∀ r, r < G.m → rw' r = rw r := by
  intro l
  induction l with
  | nil => intro r G val rw _ h _ _ _ _; exact ⟨G, rw, rfl, h, fun _ _ => rfl⟩
  | cons a l ihl =>
    intro r G val rw hG h hl hr hm hk
    cases r with
    | nil => exact ⟨G, rw, rfl, h, fun _ _ => rfl⟩
    | cons b r =>
      simp only [List.map_cons, List.cons.injEq] at hm
      obtain ⟨K, rw1, e1, m1, o1⟩ := ih G val rw a b hG h (hl a (by simp)) (hr b (by simp)) hm.1 hk
      obtain ⟨k1, k2⟩ := Gr.uni_ok k G a b K hG (hl a (by simp)) (hr b (by simp)) e1
      obtain ⟨H, rw2, e2, m2, o2⟩ := ihl r K val rw1 k1 m1 (fun x hx => by rw [k2.n]; exact hl x (by simp [hx])) (fun x hx => by rw [k2.n]; exact hr x (by simp [hx])) hm.2 (Nat.lt_of_le_of_lt k2.roots hk)
      refine ⟨H, rw2, ?_, m2, fun q hq => (o2 q (Nat.lt_of_lt_of_le hq k2.m)).trans (o1 q hq)⟩
      unfold Gr.each
      rw [e1]
      exact e2
theorem whole_srt {G : Gr} (hG : G.OK) {i : Nat} (hi : i < G.n) : Srt (G.whole i).1 := by
  unfold Gr.whole
  cases G.rv i with
  | none => exact hG.ops_srt i hi
  | some r => exact joinB_srt _ _ (hG.ops_srt i hi)
theorem uni_mod : ∀ k, UniOK k := by
  intro k
  induction k with
  | zero => intro G _ _ _ _ _ _ _ _ _ hk; omega
  | succ k ih =>
    intro G val rw a b hG h ha hb hv hk
    have hra := hG.rep_rep a ha
    have hrb := hG.rep_rep b hb
    have hla := hG.rep_lt a ha
    have hlb := hG.rep_lt b hb
    have hvr : val (G.rep a) = val (G.rep b) := by rw [← h.rep a ha, ← h.rep b hb, hv]
    unfold Gr.uni
    by_cases hab : G.rep a = G.rep b
    · rw [if_pos hab]; exact ⟨G, rw, rfl, h, fun _ _ => rfl⟩
    rw [if_neg hab]
    by_cases h0 : G.kind (G.rep a) = 0
    · rw [if_pos h0]; exact ⟨_, rw, rfl, h.link hvr, fun _ _ => rfl⟩
    rw [if_neg h0]
    by_cases h1 : G.kind (G.rep b) = 0
    · rw [if_pos h1]; exact ⟨_, rw, rfl, h.link hvr.symm, fun _ _ => rfl⟩
    rw [if_neg h1]
    have fa := h.node _ hla h0
    have fb := h.node _ hlb h1
    have hkk : G.kind (G.rep a) = G.kind (G.rep b) := by rw [← fa.kind, ← fb.kind, hvr]
    rw [if_neg (by simpa using hkk)]
    have l1 := Gr.link_ok hG hlb hra hrb hab (.inr hkk)
    have l2 := Gr.link_ext hG hla hra hrb hab
    have hroots := Gr.link_roots hla hra hrb hab
    obtain ⟨K, rw1, e1, m1, o1⟩ := each_mod ih (G.kids (G.rep a)) (G.kids (G.rep b)) (G.link (G.rep a) (G.rep b)) val rw l1 (h.link hvr) (hG.kids_lt _ hla) (hG.kids_lt _ hlb) (by rw [← fa.kids, ← fb.kids, hvr]) (by omega)
    rw [e1]
    obtain ⟨k1, k2, _⟩ := Gr.each_ok (fun _ => True) (fun G a b H h1 _ h2 h3 h4 => ⟨(Gr.uni_ok k G a b H h1 h2 h3 h4).1, (Gr.uni_ok k G a b H h1 h2 h3 h4).2, trivial⟩) _ _ _ K l1 trivial (hG.kids_lt _ hla) (hG.kids_lt _ hlb) e1
    have hn : K.n = G.n := k2.n
    have hla' : G.rep a < K.n := by rw [hn]; exact hla
    have hlb' : G.rep b < K.n := by rw [hn]; exact hlb
    have kA : K.kind (G.rep a) ≠ 0 := by rw [k2.kind]; exact h0
    have kB : K.kind (G.rep b) ≠ 0 := by rw [k2.kind]; exact h1
    obtain ⟨H, rw2, e2, m2, o2⟩ := sameRow_mod m1 k1 hla' hlb' (by rw [← m1.whole k1 hla' kA, ← m1.whole k1 hlb' kB, hvr]) (whole_srt k1 hla') (whole_srt k1 hlb')
    exact ⟨H, rw2, e2, m2, fun r hr => (o2 r (Nat.lt_of_lt_of_le hr k2.m)).trans (o1 r hr)⟩

/-- A type with what its variables stand for. -/
def app (σ : Nat → Ty.P) (ρ : Nat → RV) : Ty.P → Ty.P
  | .var n => σ n
  | .int => .int
  | .bool => .bool
  | .unit => .unit
  | .list a => .list (app σ ρ a)
  | .pair a b => .pair (app σ ρ a) (app σ ρ b)
  | .fn a b o r => .fn (app σ ρ a) (app σ ρ b) (rowW o ρ (rvOf r)).1 (rowW o ρ (rvOf r)).2
/-- The values so far are those of what was put in. -/
structure ModS (S : St) (σ : Nat → Ty.P) (ρ : Nat → RV) (val : Nat → Ty.P) (rw : Nat → RV) : Prop where
  mod : Mod S.G val rw
  tv : ∀ n i, S.tv.lookup n = some i → val i = σ n
  ro : ∀ r, r < Un.big → rw r = ρ r
def upV (val : Nat → Ty.P) (n : Nat) (t : Ty.P) : Nat → Ty.P := fun i => if i = n then t else val i
theorem ModS.add {S : St} {σ : Nat → Ty.P} {ρ : Nat → RV} {val : Nat → Ty.P} {rw : Nat → RV} (h : ModS S σ ρ val rw) (hS : S.OK) {k : Nat} {ks : List Nat} {o : List Nm} {r : Option Nat} {t : Ty.P} {tv : List (Nat × Nat)}
    (hks : ∀ j ∈ ks, j < S.G.n) (hr : ∀ x, r = some x → x < Un.big) (hf : k ≠ 0 → t.kind = k ∧ tkids t = ks.map val ∧ (t.ops, t.row) = rowW o ρ r) (htv : tv = S.tv ∨ ∃ n, tv = (n, S.G.n) :: S.tv ∧ t = σ n) :
    ModS ⟨S.G.add k ks o r, tv⟩ σ ρ (upV val S.G.n t) rw := by
  have old : ∀ i, i < S.G.n → upV val S.G.n t i = val i := fun i hi => if_neg (by omega)
  have hG := hS.g
  refine ⟨⟨fun i hi => ?_, fun i hi hk => ?_, h.mod.W, h.mod.srt⟩, fun n i hl => ?_, h.ro⟩
  · have hi' : i < S.G.n + 1 := hi
    show upV val S.G.n t i = upV val S.G.n t (if i = S.G.n then S.G.n else S.G.rep i)
    by_cases e : i = S.G.n
    · rw [if_pos e, e]
    · rw [if_neg e, old i (by omega), old _ (hG.rep_lt i (by omega))]
      exact h.mod.rep i (by omega)
  · have hi' : i < S.G.n + 1 := hi
    have hk' : (if i = S.G.n then k else S.G.kind i) ≠ 0 := hk
    by_cases e : i = S.G.n
    · subst e
      rw [if_pos rfl] at hk'
      obtain ⟨h1, h2, h3⟩ := hf hk'
      have e0 : upV val S.G.n t S.G.n = t := if_pos rfl
      refine ⟨?_, ?_, ?_⟩
      · rw [e0]
        show t.kind = if S.G.n = S.G.n then k else S.G.kind S.G.n
        rw [if_pos rfl, h1]
      · rw [e0, h2]
        show ks.map val = (if S.G.n = S.G.n then ks else S.G.kids S.G.n).map (upV val S.G.n t)
        rw [if_pos rfl]
        exact List.map_congr_left (fun j hj => (old j (hks j hj)).symm)
      · rw [e0, h3]
        show rowW o ρ r = rowW (if S.G.n = S.G.n then o else S.G.ops S.G.n) rw (if S.G.n = S.G.n then r else S.G.rv S.G.n)
        rw [if_pos rfl, if_pos rfl]
        exact rowW_ext (fun v hv => (h.ro v (hr v hv)).symm)
    · rw [if_neg e] at hk'
      have hi2 : i < S.G.n := by omega
      obtain ⟨h1, h2, h3⟩ := h.mod.node i hi2 hk'
      refine ⟨?_, ?_, ?_⟩
      · rw [old i hi2, h1]
        show S.G.kind i = if i = S.G.n then k else S.G.kind i
        rw [if_neg e]
      · rw [old i hi2, h2]
        show (S.G.kids i).map val = (if i = S.G.n then ks else S.G.kids i).map (upV val S.G.n t)
        rw [if_neg e]
        exact List.map_congr_left (fun j hj => (old j (hG.kids_lt i hi2 j hj)).symm)
      · rw [old i hi2, h3]
        show rowW (S.G.ops i) rw (S.G.rv i) = rowW (if i = S.G.n then o else S.G.ops i) rw (if i = S.G.n then r else S.G.rv i)
        rw [if_neg e, if_neg e]
  · have hl0 : tv.lookup n = some i := hl
    rcases htv with e | ⟨m, e, ht⟩
    · rw [e] at hl0
      rw [old i (hS.tv _ (lookup_mem hl0))]
      exact h.tv n i hl0
    · rw [e, List.lookup_cons] at hl0
      split at hl0
      · rename_i hb
        obtain rfl := Option.some.inj hl0
        have : n = m := by simpa using hb
        subst this
        exact (if_pos rfl).trans ht
      · rw [old i (hS.tv _ (lookup_mem hl0))]
        exact h.tv n i hl0
theorem put_mod {σ : Nat → Ty.P} {ρ : Nat → RV} : ∀ (t : Ty.P), t.ok → ∀ (S : St) (val : Nat → Ty.P) (rw : Nat → RV), S.OK → ModS S σ ρ val rw →
    ∃ val', ModS (put t S).2 σ ρ val' rw ∧ (∀ i, i < S.G.n → val' i = val i) ∧ val' (put t S).1 = app σ ρ t := by
  intro t
  have leaf : ∀ (k : Nat) (u : Ty.P) (S : St) (val : Nat → Ty.P) (rw : Nat → RV), u.kind = k → tkids u = [] → u.ops = [] → u.row = 0 → S.OK → ModS S σ ρ val rw →
      ∃ val', ModS ⟨S.G.add k [] [] none, S.tv⟩ σ ρ val' rw ∧ (∀ i, i < S.G.n → val' i = val i) ∧ val' S.G.n = u := by
    intro k u S val rw h1 h2 h3 h4 hS h
    exact ⟨upV val S.G.n u, h.add hS (fun j hj => by cases hj) (fun x hx => by cases hx) (fun _ => ⟨h1, h2, by rw [h3, h4]; rfl⟩) (.inl rfl), fun i hi => if_neg (by omega), if_pos rfl⟩
  induction t with
  | var n =>
    intro ht S val rw hS h
    unfold put
    cases hl : S.tv.lookup n with
    | some i => exact ⟨val, h, fun _ _ => rfl, h.tv n i hl⟩
    | none => exact ⟨upV val S.G.n (σ n), h.add hS (fun j hj => by cases hj) (fun x hx => by cases hx) (fun e => absurd rfl e) (.inr ⟨n, rfl, rfl⟩), fun i hi => if_neg (by omega), if_pos rfl⟩
  | int => intro _ S val rw hS h; exact leaf 1 .int S val rw rfl rfl rfl rfl hS h
  | bool => intro _ S val rw hS h; exact leaf 2 .bool S val rw rfl rfl rfl rfl hS h
  | unit => intro _ S val rw hS h; exact leaf 3 .unit S val rw rfl rfl rfl rfl hS h
  | list a ih =>
    intro ht S val rw hS h
    obtain ⟨v1, m1, o1, e1⟩ := ih ht S val rw hS h
    obtain ⟨i1, i2, i3, _⟩ := put_ok a ht S hS
    refine ⟨upV v1 (put a S).2.G.n (.list (app σ ρ a)), m1.add i1 (fun j hj => by obtain rfl := List.mem_singleton.1 hj; exact i2) (fun x hx => by cases hx) (fun _ => ⟨rfl, by simp [tkids, e1], rfl⟩) (.inl rfl), fun i hi => (if_neg (by omega)).trans (o1 i hi), if_pos rfl⟩
  | pair a b iha ihb =>
    intro ht S val rw hS h
    obtain ⟨v1, m1, o1, e1⟩ := iha ht.1 S val rw hS h
    obtain ⟨i1, i2, i3, _⟩ := put_ok a ht.1 S hS
    obtain ⟨v2, m2, o2, e2⟩ := ihb ht.2 _ v1 rw i1 m1
    obtain ⟨j1, j2, j3, _⟩ := put_ok b ht.2 _ i1
    refine ⟨upV v2 (put b (put a S).2).2.G.n (.pair (app σ ρ a) (app σ ρ b)), m2.add j1 (fun j hj => ?_) (fun x hx => by cases hx) (fun _ => ⟨rfl, by simp [tkids, e2, o2 _ i2, e1], rfl⟩) (.inl rfl), fun i hi => ((if_neg (by omega)).trans (o2 i (by omega))).trans (o1 i hi), if_pos rfl⟩
    simp only [List.mem_cons, List.not_mem_nil, or_false] at hj
    rcases hj with rfl | rfl <;> omega
  | fn a b o r iha ihb =>
    intro ht S val rw hS h
    obtain ⟨v1, m1, o1, e1⟩ := iha ht.1 S val rw hS h
    obtain ⟨i1, i2, i3, _⟩ := put_ok a ht.1 S hS
    obtain ⟨v2, m2, o2, e2⟩ := ihb ht.2.1 _ v1 rw i1 m1
    obtain ⟨j1, j2, j3, _⟩ := put_ok b ht.2.1 _ i1
    refine ⟨upV v2 (put b (put a S).2).2.G.n (app σ ρ (.fn a b o r)), m2.add j1 (fun j hj => ?_) (fun x hx => ?_) (fun _ => ⟨rfl, by simp [tkids, app, e2, o2 _ i2, e1], rfl⟩) (.inl rfl), fun i hi => ((if_neg (by omega)).trans (o2 i (by omega))).trans (o1 i hi), if_pos rfl⟩
    · simp only [List.mem_cons, List.not_mem_nil, or_false] at hj
      rcases hj with rfl | rfl <;> omega
    · unfold rvOf at hx
      split at hx
      · cases hx
      · have := Option.some.inj hx
        have h3 := ht.2.2.1
        unfold Un.big
        omega
/-- What has a value ends, and has no more parts. -/
theorem mod_parts {G : Gr} (hG : G.OK) {val : Nat → Ty.P} {rw : Nat → RV} (h : Mod G val rw) : ∀ (s i : Nat), i < G.n → (val i).parts ≤ s → ∃ p, G.Parts i p ∧ p ≤ (val i).parts := by
  intro s
  induction s with
  | zero => intro i _ hs; have := (val i).parts_pos; omega
  | succ s ih =>
    intro i hi hs
    have hr := hG.rep_lt i hi
    have hv := h.rep i hi
    by_cases h0 : G.kind (G.rep i) = 0
    · have hl := hG.kids_len _ hr
      rw [h0, show Gr.arity 0 = 0 from rfl, List.length_eq_zero_iff] at hl
      have := Gr.Parts.mk (G := G) (i := i) (s := 0) (by rw [hl]; rfl)
      obtain ⟨q1, q2⟩ := hG.row_none _ hr (by omega)
      have hw : (G.whole (G.rep i)).1 = [] := by
        unfold Gr.whole
        rw [q1, q2]
      rw [hw] at this
      exact ⟨_, this, (val i).parts_pos⟩
    · have hn := h.node _ hr h0
      have hw := h.whole hG hr h0
      have htp := tparts (val (G.rep i))
      rw [hn.kids] at htp
      have hkid : ∀ (l : List Nat), (∀ j ∈ l, j < G.n) → ((l.map val).map Ty.P.parts).sum ≤ s → ∃ p, G.SumP l p ∧ p ≤ ((l.map val).map Ty.P.parts).sum := by
        intro l
        induction l with
        | nil => intro _ _; exact ⟨0, rfl, Nat.le_refl _⟩
        | cons j l ihl =>
          intro hl hsum
          simp only [List.map_cons, List.sum_cons] at hsum ⊢
          obtain ⟨p, hp, hp2⟩ := ih j (hl j (by simp)) (by omega)
          obtain ⟨q, hq, hq2⟩ := ihl (fun x hx => hl x (by simp [hx])) (by omega)
          exact ⟨p + q, ⟨p, q, hp, hq, rfl⟩, by omega⟩
      rw [hv] at hs ⊢
      obtain ⟨p, hp, hp2⟩ := hkid (G.kids (G.rep i)) (hG.kids_lt _ hr) (by omega)
      refine ⟨_, Gr.Parts.mk hp, ?_⟩
      have hlen : (G.whole (G.rep i)).1.length ≤ (val (G.rep i)).ops.length := by
        have e : (val (G.rep i)).ops = (rowW (G.whole (G.rep i)).1 rw (G.whole (G.rep i)).2).1 := congrArg Prod.fst hw
        rw [e]
        cases (G.whole (G.rep i)).2 with
        | none => exact Nat.le_refl _
        | some v => simp only [rowW]; rw [joinB_length]; omega
      omega
end Un
end Go.Proofs.Ytcogpcalghfghaa

namespace Go.Proofs.Ytcogpcalghfghaa
namespace Un
open Answers (ToldAll)
open Gr (Nms numOf rowOf)

theorem roots_n (G : Gr) : G.roots ≤ G.n := by
  unfold Gr.roots
  exact Nat.le_trans (List.length_filter_le _ _) (by simp)
/-- What is answered where one way to make all the same is known. -/
theorem answers_mod {σ : Nat → Ty.P} {ρ : Nat → RV} : ∀ (ps : List (Ty.P × Ty.P)) (i : Nat) (S : St) (l : List Nat) (val : Nat → Ty.P) (rw : Nat → RV) (out : List Ty.P) (f : Nat × Nat), S.OK → ModS S σ ρ val rw →
    (∀ p ∈ ps, p.1.ok ∧ p.2.ok ∧ app σ ρ p.1 = app σ ρ p.2 ∧ (app σ ρ p.1).parts ≤ 300) → (∀ j ∈ l, j < S.G.n ∧ (val j).parts ≤ 300) → Answers ps i S l out f →
    f = (0, 0) ∧ ∃ G' val' rw' l', G'.OK ∧ Mod G' val' rw' ∧ ToldAll G' l' ⟨[], []⟩ out ∧ (∀ j ∈ l', j < G'.n) ∧ l'.map val' = l.map val ++ ps.map (fun p => app σ ρ p.1) := by
  intro ps
  induction ps with
  | nil =>
    rintro i S l val rw out f hS h _ hl ⟨rfl, ht⟩
    exact ⟨rfl, S.G, val, rw, l, hS.g, h.mod, ht, fun j hj => (hl j hj).1, by simp⟩
  | cons p r ih =>
    intro i S l val rw out f hS h hp hl ha
    obtain ⟨o1, o2, heq, h300⟩ := hp p (by simp)
    obtain ⟨v1, m1, k1, e1⟩ := put_mod p.1 o1 S val rw hS h
    obtain ⟨a1, a2, a3, a4, _⟩ := put_ok p.1 o1 S hS
    obtain ⟨v2, m2, k2, e2⟩ := put_mod p.2 o2 _ v1 rw a1 m1
    obtain ⟨b1, b2, b3, b4, _⟩ := put_ok p.2 o2 _ a1
    have hx : (put p.1 S).1 < (put p.2 (put p.1 S).2).2.G.n := by omega
    have vx : v2 (put p.1 S).1 = app σ ρ p.1 := (k2 _ a2).trans e1
    obtain ⟨H, rw', hu, mH, oH⟩ := uni_mod ((put p.2 (put p.1 S).2).2.G.n + 1) _ v2 rw _ _ b1.g m2.mod hx b2 (by rw [vx, e2, heq]) (Nat.lt_succ_of_le (roots_n _))
    obtain ⟨u1, u2⟩ := Gr.uni_ok _ _ _ _ _ b1.g hx b2 hu
    have hlt : ∀ j ∈ l ++ [(put p.1 S).1], j < H.n ∧ (v2 j).parts ≤ 300 := by
      intro j hj
      rw [u2.n]
      rcases List.mem_append.1 hj with hj | hj
      · obtain ⟨q1, q2⟩ := hl j hj
        refine ⟨by omega, ?_⟩
        rw [k2 j (by omega), k1 j q1]
        exact q2
      · obtain rfl := List.mem_singleton.1 hj
        exact ⟨hx, by rw [vx]; exact h300⟩
    have hpt : ∀ j ∈ l ++ [(put p.1 S).1], ∃ s, H.Parts j s ∧ s ≤ 300 := by
      intro j hj
      obtain ⟨s, hs, h2⟩ := mod_parts u1 mH _ j (hlt j hj).1 (Nat.le_refl _)
      have := (hlt j hj).2
      exact ⟨s, hs, by omega⟩
    unfold Answers at ha
    simp only [hu] at ha
    rcases ha with ⟨⟨j, hj, hn⟩, _⟩ | ⟨_, ⟨j, hj, s, hs, h3⟩, _⟩ | ⟨_, ha⟩
    · obtain ⟨s, hs, _⟩ := hpt j hj
      exact absurd ⟨s, hs⟩ hn
    · obtain ⟨s', hs', h4⟩ := hpt j hj
      have := hs.one hs'
      omega
    · have hm : H.m = H.m := rfl
      have hro : ∀ q, q < Un.big → rw' q = ρ q := fun q hq => (oH q (by have := b1.big; omega)).trans (m2.ro q hq)
      obtain ⟨hf, G', val', rw2, l', c1, c2, c3, c4, c5⟩ := ih (i + 1) ⟨H, (put p.2 (put p.1 S).2).2.tv⟩ _ v2 rw' out f ⟨u1, Nat.le_trans b1.big u2.m, fun q hq => by rw [u2.n]; exact b1.tv q hq⟩ ⟨mH, m2.tv, hro⟩ (fun q hq => hp q (by simp [hq])) hlt ha
      refine ⟨hf, G', val', rw2, l', c1, c2, c3, c4, ?_⟩
      rw [c5, List.map_append, List.map_cons, List.map_cons, List.map_nil, vx, List.append_assoc]
      congr 1
      exact List.map_congr_left (fun j hj => by rw [k2 j (by have := (hl j hj).1; omega), k1 j (hl j hj).1])
theorem start_mod {σ : Nat → Ty.P} {ρ : Nat → RV} (hρ : ∀ r, Srt (ρ r).1) : ModS ⟨emptyG, []⟩ σ ρ (fun _ => .int) ρ := by
  refine ⟨⟨fun i hi => absurd hi (Nat.not_lt_zero i), fun i hi => absurd hi (Nat.not_lt_zero i), fun r _ => ?_, fun r _ => hρ r⟩, (fun n i h => by cases h), fun _ _ => rfl⟩
  show ρ r = (joinB [] (ρ r).1, (ρ r).2)
  rw [joinB_nil (hρ r)]

theorem len_two {α : Type} {l : List α} (h : l.length = 2) : ∃ x y, l = [x, y] := by
  match l, h with
  | [x, y], _ => exact ⟨x, y, rfl⟩
/-- Numbers that are met later. -/
def Later (N M : Nms) : Prop := (∃ l, M.t = N.t ++ l) ∧ ∃ l, M.r = N.r ++ l
theorem Later.refl (N : Nms) : Later N N := ⟨⟨[], by simp⟩, ⟨[], by simp⟩⟩
theorem Later.trans {A B C : Nms} (h : Later A B) (k : Later B C) : Later A C := by
  obtain ⟨⟨a, ha⟩, ⟨b, hb⟩⟩ := h
  obtain ⟨⟨c, hc⟩, ⟨d, hd⟩⟩ := k
  exact ⟨⟨a ++ c, by rw [hc, ha, List.append_assoc]⟩, ⟨b ++ d, by rw [hd, hb, List.append_assoc]⟩⟩
/-- What a number stands for. -/
def tyOf (val : Nat → Ty.P) (N : Nms) (n : Nat) : Ty.P := val (N.t.getD (n - 1) 0)
def rvN (rw : Nat → RV) (N : Nms) (n : Nat) : RV := rw (N.r.getD (n - 1) 0)
theorem numOf_at (l : List Nat) (x : Nat) : (numOf l x).1 ≠ 0 ∧ (numOf l x).1 ≤ (numOf l x).2.length ∧ (numOf l x).2.getD ((numOf l x).1 - 1) 0 = x ∧ ∃ m, (numOf l x).2 = l ++ m := by
  unfold numOf
  split
  · rename_i h
    have := List.idxOf_lt_length_of_mem h
    refine ⟨by simp, by show l.idxOf x + 1 ≤ l.length; omega, ?_, ⟨[], by simp⟩⟩
    simp only [Nat.add_sub_cancel]
    rw [List.getD_eq_getElem?_getD, List.getElem?_eq_getElem this, Option.getD_some]
    exact List.getElem_idxOf this
  · refine ⟨by simp, by simp, ?_, ⟨[x], rfl⟩⟩
    simp only [Nat.add_sub_cancel]
    rw [List.getD_eq_getElem?_getD]
    simp
theorem getD_app {l m : List Nat} {i : Nat} (h : i < l.length) : (l ++ m).getD i 0 = l.getD i 0 := by
  rw [List.getD_eq_getElem?_getD, List.getD_eq_getElem?_getD, List.getElem?_append_left h]
theorem srt_order : ∀ {l : List Nm}, Srt l → Ty.inOrder l := by
  intro l
  induction l with
  | nil => intro _; trivial
  | cons x r ih =>
    intro h
    cases r with
    | nil => trivial
    | cons y r =>
      have h1 : x ≤ y := List.rel_of_pairwise_cons h (by simp)
      exact ⟨List.not_lt.2 h1, ih (List.Pairwise.of_cons h)⟩
/-- A type that is told: with what its numbers stand for it is the value; and it is proper. -/
theorem told_mod {G : Gr} (hG : G.OK) {val : Nat → Ty.P} {rw : Nat → RV} (h : Mod G val rw) : ∀ (k i : Nat) (N N' : Nms) (t : Ty.P), i < G.n → G.told k i N = some (t, N') →
    Later N N' ∧ (∀ M, Later N' M → app (tyOf val M) (rvN rw M) t = val i) ∧ ((val i).ok → N'.t.length ≤ 1000000000 → N'.r.length ≤ 1000000000 → t.ok) := by
  intro k
  induction k with
  | zero => intro i N N' t _ e; cases e
  | succ k ih =>
    intro i N N' t hi e
    have hr := hG.rep_lt i hi
    have hv := h.rep i hi
    have klen := hG.kids_len _ hr
    have kn : G.kind (G.rep i) ≠ 0 → (val (G.rep i)).kind = G.kind (G.rep i) ∧ tkids (val (G.rep i)) = (G.kids (G.rep i)).map val := fun h0 => ⟨(h.node _ hr h0).kind, (h.node _ hr h0).kids⟩
    rw [Gr.told] at e
    split at e
    · cases e
      obtain ⟨n0, n1, n2, m, n3⟩ := numOf_at N.t (G.rep i)
      refine ⟨⟨⟨m, n3⟩, ⟨[], by simp⟩⟩, fun M hM => ?_, fun _ h1 _ => ⟨by omega, Nat.le_trans n1 h1⟩⟩
      obtain ⟨⟨l, hl⟩, _⟩ := hM
      show val (M.t.getD _ 0) = val i
      have hl' : M.t = (numOf N.t (G.rep i)).2 ++ l := hl
      rw [hl', getD_app (by omega), n2, hv]
    split at e
    · rename_i h0 hk
      cases e
      have := kn h0
      refine ⟨Later.refl _, fun M _ => ?_, fun _ _ _ => trivial⟩
      rw [hv]
      cases hx : val (G.rep i) <;> simp_all [Ty.P.kind, app]
    split at e
    · rename_i h0 h1 hk
      cases e
      have := kn h0
      refine ⟨Later.refl _, fun M _ => ?_, fun _ _ _ => trivial⟩
      rw [hv]
      cases hx : val (G.rep i) <;> simp_all [Ty.P.kind, app]
    split at e
    · rename_i h0 h1 h2 hk
      cases e
      have := kn h0
      refine ⟨Later.refl _, fun M _ => ?_, fun _ _ _ => trivial⟩
      rw [hv]
      cases hx : val (G.rep i) <;> simp_all [Ty.P.kind, app]
    split at e
    · rename_i h0 h1 h2 h3 hk
      obtain ⟨⟨a, M1⟩, ha, e⟩ := Option.map_eq_some_iff.1 e
      cases e
      obtain ⟨q1, q2⟩ := kn h0
      rw [hk] at klen q1
      obtain ⟨x, hx⟩ := List.length_eq_one_iff.1 (show (G.kids (G.rep i)).length = 1 from klen)
      rw [hx] at ha q2
      obtain ⟨b1, b2, b3⟩ := ih x N _ a (hG.kids_lt _ hr x (by rw [hx]; simp)) ha
      cases hw : val (G.rep i) <;> rw [hw] at q1 q2 <;> simp [Ty.P.kind, tkids] at q1 q2
      rename_i y
      refine ⟨b1, fun M hM => ?_, fun ok l1 l2 => ?_⟩
      · show Ty.P.list (app _ _ a) = _
        rw [b2 M hM, hv, hw, q2]
      · rw [hv, hw] at ok
        exact b3 (by rw [← q2]; exact ok) l1 l2
    split at e
    · rename_i h0 h1 h2 h3 h4 hk
      obtain ⟨⟨a, M1⟩, ha, e⟩ := Option.bind_eq_some_iff.1 e
      obtain ⟨⟨b, M2⟩, hb, e⟩ := Option.map_eq_some_iff.1 e
      cases e
      obtain ⟨q1, q2⟩ := kn h0
      rw [hk] at klen q1
      obtain ⟨x, y, hx⟩ := len_two (show (G.kids (G.rep i)).length = 2 from klen)
      rw [hx] at ha hb q2
      obtain ⟨b1, b2, b3⟩ := ih x N M1 a (hG.kids_lt _ hr x (by rw [hx]; simp)) ha
      obtain ⟨c1, c2, c3⟩ := ih y M1 _ b (hG.kids_lt _ hr y (by rw [hx]; simp)) hb
      cases hw : val (G.rep i) <;> rw [hw] at q1 q2 <;> simp [Ty.P.kind, tkids] at q1 q2
      rename_i u v
      refine ⟨b1.trans c1, fun M hM => ?_, fun ok l1 l2 => ?_⟩
      · show Ty.P.pair (app _ _ a) (app _ _ b) = _
        rw [b2 M (c1.trans hM), c2 M hM, hv, hw, q2.1, q2.2]
      · rw [hv, hw] at ok
        obtain ⟨⟨l, hl⟩, ⟨m, hm⟩⟩ := c1
        rw [hl, List.length_append] at l1
        rw [hm, List.length_append] at l2
        refine ⟨b3 (by rw [← q2.1]; exact ok.1) (by omega) (by omega), c3 (by rw [← q2.2]; exact ok.2) ?_ ?_⟩
        · rw [hl, List.length_append]; exact l1
        · rw [hm, List.length_append]; exact l2
    · rename_i h0 h1 h2 h3 h4 h5
      have hk : G.kind (G.rep i) = 6 := by
        have := hG.kind_le _ hr
        omega
      obtain ⟨⟨a, M1⟩, ha, e⟩ := Option.bind_eq_some_iff.1 e
      obtain ⟨⟨b, M2⟩, hb, e⟩ := Option.map_eq_some_iff.1 e
      cases e
      have hwhole := h.whole hG hr h0
      obtain ⟨q1, q2⟩ := kn h0
      rw [hk] at klen q1
      obtain ⟨x, y, hx⟩ := len_two (show (G.kids (G.rep i)).length = 2 from klen)
      rw [hx] at ha hb q2
      obtain ⟨b1, b2, b3⟩ := ih x N M1 a (hG.kids_lt _ hr x (by rw [hx]; simp)) ha
      obtain ⟨c1, c2, c3⟩ := ih y _ _ b (hG.kids_lt _ hr y (by rw [hx]; simp)) hb
      have hrow : Later M1 (rowOf M1 (G.whole (G.rep i)).2).2 ∧ (∀ M, Later (rowOf M1 (G.whole (G.rep i)).2).2 M → rowW (G.whole (G.rep i)).1 (rvN rw M) (rvOf (rowOf M1 (G.whole (G.rep i)).2).1) = rowW (G.whole (G.rep i)).1 rw (G.whole (G.rep i)).2) ∧ (rowOf M1 (G.whole (G.rep i)).2).1 ≤ (rowOf M1 (G.whole (G.rep i)).2).2.r.length := by
        cases (G.whole (G.rep i)).2 with
        | none => exact ⟨Later.refl _, fun _ _ => rfl, Nat.zero_le _⟩
        | some v =>
          obtain ⟨n0, n1, n2, m, n3⟩ := numOf_at M1.r v
          refine ⟨⟨⟨[], by simp [rowOf]⟩, ⟨m, n3⟩⟩, fun M hM => ?_, n1⟩
          obtain ⟨_, ⟨l, hl⟩⟩ := hM
          have hl' : M.r = (numOf M1.r v).2 ++ l := hl
          show rowW _ (rvN rw M) (rvOf (numOf M1.r v).1) = _
          unfold rvOf
          rw [if_neg n0]
          simp only [rowW, rvN]
          rw [hl', getD_app (by omega), n2]
      obtain ⟨d1, d2, d3⟩ := hrow
      cases hw : val (G.rep i) <;> rw [hw] at q1 q2 <;> simp [Ty.P.kind, tkids] at q1 q2
      rename_i u v o r
      rw [hw] at hwhole
      refine ⟨(b1.trans d1).trans c1, fun M hM => ?_, fun ok l1 l2 => ?_⟩
      · show Ty.P.fn (app _ _ a) (app _ _ b) (rowW _ (rvN rw M) _).1 (rowW _ (rvN rw M) _).2 = _
        rw [b2 M ((d1.trans c1).trans hM), c2 M hM, hv, hw, q2.1, q2.2, d2 M (c1.trans hM), ← hwhole]
        rfl
      · rw [hv, hw] at ok
        obtain ⟨k1, k2, k3, k4, k5⟩ := ok
        obtain ⟨⟨lA, hlA⟩, ⟨mA, hmA⟩⟩ := d1
        obtain ⟨⟨lB, hlB⟩, ⟨mB, hmB⟩⟩ := c1
        have t1 : M1.t.length ≤ 1000000000 := by rw [hlB, hlA] at l1; simp only [List.length_append] at l1; omega
        have r1 : M1.r.length ≤ 1000000000 := by rw [hmB, hmA] at l2; simp only [List.length_append] at l2; omega
        have r2 : (rowOf M1 (G.whole (G.rep i)).2).2.r.length ≤ 1000000000 := by rw [hmB] at l2; simp only [List.length_append] at l2; omega
        refine ⟨b3 (by rw [← q2.1]; exact k1) t1 r1, c3 (by rw [← q2.2]; exact k2) l1 l2, Nat.le_trans d3 r2, fun s hs => k4 s ?_, srt_order (whole_srt hG hr)⟩
        have e1 : o = (rowW (G.whole (G.rep i)).1 rw (G.whole (G.rep i)).2).1 := congrArg Prod.fst hwhole
        rw [e1, ← List.count_pos_iff]
        have := List.count_pos_iff.2 hs
        cases (G.whole (G.rep i)).2 with
        | none => exact this
        | some v => simp only [rowW]; rw [joinB_count]; omega
end Un
end Go.Proofs.Ytcogpcalghfghaa

namespace Go.Proofs.Ytcogpcalghfghaa
namespace Un
/-- What is left of the first names, and what the second have besides, each met once, from the left. -/
def gre : List Nm → List Nm → List Nm × List Nm
  | o, [] => (o, [])
  | [], y :: s => ([], y :: (gre [] s).2)
  | x :: o, y :: s => if x = y then gre o s else ((gre (x :: o) s).1, y :: (gre (x :: o) s).2)
theorem gre_nil (s : List Nm) : gre [] s = ([], s) := by
  induction s with
  | nil => rfl
  | cons y s ih => unfold gre; rw [ih]
theorem gre_all : ∀ (s o : List Nm), Srt o → Srt s → (∀ z, o.count z ≤ s.count z) → (gre o s).1 = [] ∧ Srt (gre o s).2 ∧ ∀ z, (gre o s).2.count z = s.count z - o.count z := by
  intro s
  induction s with
  | nil =>
    intro o _ _ h
    have : o = [] := by
      cases o with
      | nil => rfl
      | cons x r => have := h x; simp at this
    subst this
    exact ⟨rfl, List.Pairwise.nil, fun z => by simp [gre]⟩
  | cons y s ih =>
    intro o ho hs h
    cases o with
    | nil =>
      rw [gre_nil]
      exact ⟨rfl, hs, fun z => by simp⟩
    | cons x o =>
      by_cases e : x = y
      · subst e
        have hg : gre (x :: o) (x :: s) = gre o s := by simp [gre]
        rw [hg]
        obtain ⟨h1, h2, h3⟩ := ih o (List.Pairwise.of_cons ho) (List.Pairwise.of_cons hs) (fun z => by have := h z; rw [List.count_cons, List.count_cons] at this; omega)
        exact ⟨h1, h2, fun z => by rw [h3, List.count_cons, List.count_cons]; omega⟩
      · have hg : gre (x :: o) (y :: s) = ((gre (x :: o) s).1, y :: (gre (x :: o) s).2) := by simp [gre, e]
        have hxs : x ∈ s := by
          have := h x
          rw [List.count_cons_self, List.count_cons_of_ne (fun q => e q.symm)] at this
          exact List.count_pos_iff.1 (by omega)
        have hyx : y ≤ x := List.rel_of_pairwise_cons hs hxs
        have hyo : (x :: o).count y = 0 := by
          rw [List.count_eq_zero]
          intro hm
          rcases List.mem_cons.1 hm with q | q
          · exact e q.symm
          · exact e (List.le_antisymm (List.rel_of_pairwise_cons ho q) hyx)
        obtain ⟨h1, h2, h3⟩ := ih (x :: o) ho (List.Pairwise.of_cons hs) (fun z => by
          have hz := h z
          by_cases q : z = y
          · subst q; omega
          · rw [List.count_cons_of_ne (fun p => q p.symm)] at hz; exact hz)
        rw [hg]
        refine ⟨h1, List.Pairwise.cons (fun z hz => ?_) h2, fun z => ?_⟩
        · have : 0 < (gre (x :: o) s).2.count z := List.count_pos_iff.2 hz
          rw [h3] at this
          exact List.rel_of_pairwise_cons hs (List.count_pos_iff.1 (by omega))
        · show (y :: (gre (x :: o) s).2).count z = _
          rw [List.count_cons, h3, List.count_cons (l := s)]
          by_cases q : y = z
          · subst q; simp; omega
          · simp [q]
/-- What a row has besides is what its variable stands for. -/
theorem gre_row {o : List Nm} {r : Nat} {ρ : Nat → RV} (ho : Srt o) (hρ : ∀ r, Srt (ρ r).1) : gre o (rowW o ρ (rvOf r)).1 = ([], if r = 0 then [] else (ρ r).1) := by
  have hs : Srt (rowW o ρ (rvOf r)).1 := by
    unfold rvOf
    split
    · exact ho
    · exact joinB_srt _ _ ho
  have hc : ∀ z, (rowW o ρ (rvOf r)).1.count z = o.count z + (if r = 0 then [] else (ρ r).1).count z := by
    intro z
    unfold rvOf
    split
    · simp [rowW]
    · simp only [rowW]; rw [joinB_count]
  obtain ⟨h1, h2, h3⟩ := gre_all _ o ho hs (fun z => by rw [hc]; omega)
  refine Prod.ext h1 (srt_ext h2 (show Srt (if r = 0 then [] else (ρ r).1) from ?_) (fun z => by rw [h3, hc]; show _ = (if r = 0 then [] else (ρ r).1).count z; omega))
  split
  · exact List.Pairwise.nil
  · exact hρ r
end Un
end Go.Proofs.Ytcogpcalghfghaa
