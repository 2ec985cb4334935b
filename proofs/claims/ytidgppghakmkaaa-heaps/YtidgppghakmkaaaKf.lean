/-
  Make in both heaps, at the law's state.
-/
import Derived.Test.YtidgppghakmkaaaKd
set_option linter.unusedVariables false
set_option linter.unusedSimpArgs false
namespace Go.Proofs.Ytidgppghakmkaaa
open scoped Classical
open Go.RowKit Go.Shelf Hp Go.Sort

namespace Hp
theorem mk_all {T : List Th} {r : Nat → Cl} (hok : TOk T) (hwf : WF T) (hrv : RV T r) (N n : Nat) : TOk (mkT T r N n) ∧ WF (mkT T r N n) ∧ RV (mkT T r N n) (mkR T r N n) := by
  unfold mkT mkR
  split
  · exact ⟨hok, hwf, hrv⟩
  · exact ⟨TOk_coll hok _, WF_coll (mR_kept hwf r), RV_coll hrv⟩
theorem RV_snoc {T : List Th} {r : Nat → Cl} (h : RV T r) (t : Th) : RV (T ++ [t]) r := fun i hi hp => by
  obtain ⟨k, hk⟩ := h i hi hp
  exact ⟨k, Is_snoc hk⟩
end Hp
section
variable {w w1 : World} {hb g N rb ca cb : Nat} {T : List Th} {f : Nat → PC} {bs : Nat → Nat} {lv : Value} {r : Nat → Cl}
theorem LS.make (h : LS w w1 hb g N rb ca cb T f bs lv r) {lx : Nat} (hlx : LRd lx ca [] w1) (h1 : lx ≠ g) (h2 : lx ≠ hb) (h3 : lx ≠ ca) (kind tag : Int) (n : Nat) (hk : 0 ≤ kind ∧ kind ≤ 4) (ht : 0 ≤ tag ∧ tag ≤ 65535) (hn : n ≤ 1000000) :
    Calls Try.prog 6 #[.pointer (some ⟨hb, 0, none⟩), .int .i64 kind, .int .i64 tag, .int .i64 (n : Nat), .func (.func 17) #[] #[.pointer (some ⟨lx, 0, none⟩)]] w1 (MakePost w1 hb g N ca (mkT T r N n) (mkR T r N n) kind tag n) :=
  Make_any w1 hb g N T f h.hm h.ly h.wf lx ca r h.ra hlx h.rv h.ne.2.1 h.ne.1 h1 h2 h3 kind tag n hk ht hn
theorem LS.make_fit (h : LS w w1 hb g N rb ca cb T f bs lv r) {lx : Nat} (hlx : LRd lx ca [] w1) (h1 : lx ≠ g) (h2 : lx ≠ hb) (h3 : lx ≠ ca) (kind tag : Int) (n : Nat) (hk : 0 ≤ kind ∧ kind ≤ 4) (ht : 0 ≤ tag ∧ tag ≤ 65535) (hn : n ≤ 1000000) (hf : used (mkT T r N n) + n + 1 ≤ N) :
    Calls Try.prog 6 #[.pointer (some ⟨hb, 0, none⟩), .int .i64 kind, .int .i64 tag, .int .i64 (n : Nat), .func (.func 17) #[] #[.pointer (some ⟨lx, 0, none⟩)]] w1 fun e w' => e = .returned (.tuple #[.int .i64 (used (mkT T r N n) : Nat), .int .i64 0]) ∧ (∃ f', HM w' hb g N f' (used (mkT T r N n ++ [newTh kind tag n])) ∧ Lay (mkT T r N n ++ [newTh kind tag n]) f' (g0 (mkT T r N n ++ [newTh kind tag n]))) ∧ RtsM w' ca (mkR T r N n) ∧ Ch (fun k => k = g ∨ k = hb ∨ k = ca) w1 w' :=
  (h.make hlx h1 h2 h3 kind tag n hk ht hn).mono fun e w' hP => by
    obtain ⟨hP, hr, hc⟩ := hP
    rcases hP with ⟨_, he, hx⟩ | ⟨hx, _⟩
    · exact ⟨he, hx, hr, hc⟩
    · exact absurd hf hx
theorem LS.make_full (h : LS w w1 hb g N rb ca cb T f bs lv r) {lx : Nat} (hlx : LRd lx ca [] w1) (h1 : lx ≠ g) (h2 : lx ≠ hb) (h3 : lx ≠ ca) (kind tag : Int) (n : Nat) (hk : 0 ≤ kind ∧ kind ≤ 4) (ht : 0 ≤ tag ∧ tag ≤ 65535) (hn : n ≤ 1000000) (hf : ¬ used (mkT T r N n) + n + 1 ≤ N) :
    Calls Try.prog 6 #[.pointer (some ⟨hb, 0, none⟩), .int .i64 kind, .int .i64 tag, .int .i64 (n : Nat), .func (.func 17) #[] #[.pointer (some ⟨lx, 0, none⟩)]] w1 fun e w' => e = .returned (.tuple #[.int .i64 0, .int .i64 18]) ∧ (∃ f', HM w' hb g N f' (used (mkT T r N n)) ∧ Lay (mkT T r N n) f' (g0 (mkT T r N n))) ∧ RtsM w' ca (mkR T r N n) ∧ Ch (fun k => k = g ∨ k = hb ∨ k = ca) w1 w' :=
  (h.make hlx h1 h2 h3 kind tag n hk ht hn).mono fun e w' hP => by
    obtain ⟨hP, hr, hc⟩ := hP
    rcases hP with ⟨hx, _⟩ | ⟨_, he, hx⟩
    · exact absurd hx hf
    · exact ⟨he, hx, hr, hc⟩
/-- The document's, behind the program's. -/
theorem LS.dmake {w2 w3 : World} (h : LS w w1 hb g N rb ca cb T f bs lv r) (hc2 : Ch (fun k => k = g ∨ k = hb ∨ k = ca) w1 w2) {pb pc : Nat} (hP : PlM w3 pb cb) (hpn : w2.heap.size ≤ pb) (hc3 : Ch (fun _ => False) w2 w3) (kind tag : Int) (n : Nat) (hk : 0 ≤ kind ∧ kind ≤ 4) (ht : 0 ≤ tag ∧ tag ≤ 65535) (hn : n ≤ 1000000) :
    Calls Try.prog 8 #[.pointer (some ⟨rb, 0, none⟩), .int .i64 kind, .int .i64 tag, .int .i64 (n : Nat), .slice (some ⟨pb, 0, none⟩) 6 pc] w3 (DMakePost w3 rb N cb (DOwn rb T bs lv) (mkT T r N n) (mkR T r N n) kind tag n) := by
  obtain ⟨D2, hr2, _⟩ := h.docs hc2
  have hcl := (Array.getElem?_eq_some_iff.1 hr2).1
  exact DMake_any w3 rb N T bs lv (D2.quiet hc3) h.wf pb pc cb r hP ((hc3.same cb hcl (fun h => h)).trans hr2) h.rv (fun h' => (h.no cb h').2.2.2 rfl) (fun h' => by have := D2.lt h'; omega) (by omega) kind tag n hk ht hn
theorem LS.dmake_fit {w2 w3 : World} {f2 : Nat → PC} (h : LS w w1 hb g N rb ca cb T f bs lv r) (hc2 : Ch (fun k => k = g ∨ k = hb ∨ k = ca) w1 w2) {pb pc : Nat} (hP : PlM w3 pb cb) (hpn : w2.heap.size ≤ pb) (hc3 : Ch (fun _ => False) w2 w3) (kind tag : Int) (n : Nat) (hk : 0 ≤ kind ∧ kind ≤ 4) (ht : 0 ≤ tag ∧ tag ≤ 65535) (hn : n ≤ 1000000) (hf : used (mkT T r N n) + n + 1 ≤ N)
    (H2 : HM w2 hb g N f2 (used (mkT T r N n ++ [newTh kind tag n]))) (hL2 : Lay (mkT T r N n ++ [newTh kind tag n]) f2 (g0 (mkT T r N n ++ [newTh kind tag n]))) (ha2 : RtsM w2 ca (mkR T r N n)) :
    Calls Try.prog 8 #[.pointer (some ⟨rb, 0, none⟩), .int .i64 kind, .int .i64 tag, .int .i64 (n : Nat), .slice (some ⟨pb, 0, none⟩) 6 pc] w3 fun e w' => e = .returned (.tuple #[.int .i64 (used (mkT T r N n) : Nat), .int .i64 0]) ∧ ∃ bs' lv', LS w w' hb g N rb ca cb (mkT T r N n ++ [newTh kind tag n]) f2 bs' lv' (mkR T r N n) :=
  (h.dmake hc2 hP hpn hc3 kind tag n hk ht hn).mono fun e w' hQ => by
    obtain ⟨hQ, hr, hc⟩ := hQ
    obtain ⟨m1, m2, m3⟩ := mk_all h.ok h.wf h.rv N n
    rcases hQ with ⟨_, he, bs', lv', hD, ho⟩ | ⟨hx, _⟩
    · exact ⟨he, bs', lv', h.both hc2 H2 hL2 ha2 ((hc3.mono (fun _ h => h.elim)).trans hc (fun _ h => .inl h)) hD (fun k hk => (ho k hk).imp id (fun h => Nat.le_trans hc3.size h)) hr (TOk_snoc m1 n hk ht) (WF_snoc m2 kind tag n) (RV_snoc m3 _)⟩
    · exact absurd hf hx
theorem LS.dmake_full {w2 w3 : World} {f2 : Nat → PC} (h : LS w w1 hb g N rb ca cb T f bs lv r) (hc2 : Ch (fun k => k = g ∨ k = hb ∨ k = ca) w1 w2) {pb pc : Nat} (hP : PlM w3 pb cb) (hpn : w2.heap.size ≤ pb) (hc3 : Ch (fun _ => False) w2 w3) (kind tag : Int) (n : Nat) (hk : 0 ≤ kind ∧ kind ≤ 4) (ht : 0 ≤ tag ∧ tag ≤ 65535) (hn : n ≤ 1000000) (hf : ¬ used (mkT T r N n) + n + 1 ≤ N)
    (H2 : HM w2 hb g N f2 (used (mkT T r N n))) (hL2 : Lay (mkT T r N n) f2 (g0 (mkT T r N n))) (ha2 : RtsM w2 ca (mkR T r N n)) :
    Calls Try.prog 8 #[.pointer (some ⟨rb, 0, none⟩), .int .i64 kind, .int .i64 tag, .int .i64 (n : Nat), .slice (some ⟨pb, 0, none⟩) 6 pc] w3 fun e w' => e = .returned (.tuple #[.int .i64 0, .int .i64 18]) ∧ ∃ bs' lv', LS w w' hb g N rb ca cb (mkT T r N n) f2 bs' lv' (mkR T r N n) :=
  (h.dmake hc2 hP hpn hc3 kind tag n hk ht hn).mono fun e w' hQ => by
    obtain ⟨hQ, hr, hc⟩ := hQ
    obtain ⟨m1, m2, m3⟩ := mk_all h.ok h.wf h.rv N n
    rcases hQ with ⟨hx, _⟩ | ⟨_, he, bs', lv', hD, ho⟩
    · exact absurd hx hf
    · exact ⟨he, bs', lv', h.both hc2 H2 hL2 ha2 ((hc3.mono (fun _ h => h.elim)).trans hc (fun _ h => .inl h)) hD (fun k hk => (ho k hk).imp id (fun h => Nat.le_trans hc3.size h)) hr m1 m2 m3⟩
end
end Go.Proofs.Ytidgppghakmkaaa
