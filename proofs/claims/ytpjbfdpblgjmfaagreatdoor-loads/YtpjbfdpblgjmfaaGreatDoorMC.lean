/-
  The program's lists: what a list under way is in memory.
  The program's lists.
-/
import Derived.Test.YtpjbfdpblgjmfaaGreatDoorMB
import Derived.Test.YtpjbfdpblgjmfaaGreatDoorMO
import Derived.Laws.MakeOwn
set_option linter.unusedVariables false
set_option linter.unusedSimpArgs false
namespace Go.Proofs.YtpjbfdpblgjmfaaGreatDoor
open Go.RowKit Go.Lib

/-- One after the other, as long as there is no fault. -/
def Cd.Rd.manyL {α : Type} (g : Cd.Rd → α × Cd.Rd) : Nat → Cd.Rd → List α × Cd.Rd
  | 0, r => ([], r)
  | n + 1, r => if r.fk = 0 then ((g r).1 :: (manyL g n (g r).2).1, (manyL g n (g r).2).2) else ([], r)
theorem many_stop {α : Type} (g : Cd.Rd → α × Cd.Rd) (n : Nat) (r : Cd.Rd) (h : r.fk ≠ 0) : Cd.Rd.manyL g n r = ([], r) := by
  cases n with
  | zero => rfl
  | succ n => rw [Cd.Rd.manyL, if_neg h]
theorem many_go {α : Type} (g : Cd.Rd → α × Cd.Rd) (n : Nat) (r : Cd.Rd) (h : r.fk = 0) : Cd.Rd.manyL g (n + 1) r = ((g r).1 :: (Cd.Rd.manyL g n (g r).2).1, (Cd.Rd.manyL g n (g r).2).2) := by
  rw [Cd.Rd.manyL, if_pos h]

/-- How an element lies in memory: its cells; blocks of D may hold more of it. -/
abbrev Rel (α : Type) := α → List Value → World → (Nat → Prop) → Prop
def Rel.Ok {α : Type} (R : Rel α) (size : Nat) : Prop := (∀ x cs w D, R x cs w D → cs.length = size ∧ ∀ u ∈ cs, u.oneCell' = true) ∧ ∀ x cs w w' D D', R x cs w D → (∀ k, D k → w'.heap[k]? = w.heap[k]?) → (∀ k, D k → D' k) → R x cs w' D'
/-- A list under way. -/
structure LI {α : Type} (R : Rel α) (e : TypeId) (size b : Nat) (w wr : World) (v : Value) (D : Nat → Prop) (l : List α) (css : List (List Value)) : Prop where
  row : wr.ownsRow 0 e size v l.length css.flatten
  len : css.length = l.length
  rel : ∀ (j : Nat) (x : α), l[j]? = some x → ∃ cs, css[j]? = some cs ∧ R x cs wr D
  dk : ∀ k, D k → k < wr.heap.size ∧ k ≠ b ∧ w.heap.size ≤ k ∧ v.ownBlock ≠ some k
  own : ∃ g, v.ownBlock = some g ∧ g ≠ b ∧ w.heap.size ≤ g
theorem LI.each {α : Type} {R : Rel α} {e : TypeId} {size b : Nat} {w wr w1 : World} {v : Value} {D : Nat → Prop} {l : List α} {css : List (List Value)} (hR : R.Ok size) (h : LI R e size b w wr v D l css) (hg : wr.grownBy w1 (some b)) : LI R e size b w w1 v D l css := by
  obtain ⟨g, hg1, hg2, hg3⟩ := h.own
  refine ⟨ownsRow_keep h.row (fun k hk => hg.block k (ownsRow_lt h.row hk) ?_), h.len, fun j x hx => ?_, fun k hk => ⟨Nat.lt_of_lt_of_le (h.dk k hk).1 hg.size, (h.dk k hk).2⟩, h.own⟩
  · rw [hg1] at hk
    cases hk
    simp
    omega
  · obtain ⟨cs, h1, h2⟩ := h.rel j x hx
    exact ⟨cs, h1, hR.2 x cs wr w1 D D h2 (fun k hk => hg.block k (h.dk k hk).1 (by have := (h.dk k hk).2.1; simp; omega)) (fun _ h => h)⟩
theorem flatten_snoc (css : List (List Value)) (cs : List Value) : (css ++ [cs]).flatten = css.flatten ++ cs := by simp
/-- One more. -/
theorem LI.push {α : Type} {R : Rel α} {e : TypeId} {size b : Nat} {w w1 w2 : World} {v v' : Value} {D D1 : Nat → Prop} {l : List α} {css : List (List Value)} {x : α} {cs : List Value} {o : Obj} (hR : R.Ok size) (h : LI R e size b w w1 v D l css) (hb : b < w1.heap.size) (hx : R x cs w1 D1) (hD1 : ∀ k, D1 k → k < w1.heap.size ∧ k ≠ b ∧ w.heap.size ≤ k ∧ v.ownBlock ≠ some k) (hw : w.heap.size ≤ w1.heap.size)
    (hrow : w2.ownsRow 0 e size v' (l.length + 1) (css.flatten ++ cs)) (hg : (w1.alloc o).grownBy w2 v.ownBlock) (hat : v'.ownBlock = v.ownBlock ∨ v'.ownBlock = some (w1.alloc o).heap.size) : LI R e size b w w2 v' (fun k => D k ∨ D1 k) (l ++ [x]) (css ++ [cs]) := by
  have hs : ∀ k, k < w1.heap.size → v.ownBlock ≠ some k → w2.heap[k]? = w1.heap[k]? := fun k hk hne => (hg.block k (by simp; omega) (fun e => hne e.symm)).trans (Below.heap_alloc w1 o k hk)
  have hz : w1.heap.size ≤ w2.heap.size := by have := hg.size; simp at this; omega
  have hall : ∀ k, (D k ∨ D1 k) → k < w1.heap.size ∧ k ≠ b ∧ w.heap.size ≤ k ∧ v.ownBlock ≠ some k := fun k hk => by
    rcases hk with hk | hk
    · exact h.dk k hk
    · exact hD1 k hk
  obtain ⟨g, hg1, hg2, hg3⟩ := h.own
  refine ⟨?_, by simp [h.len], fun j y hy => ?_, fun k hk => ?_, ?_⟩
  · rw [flatten_snoc, List.length_append]
    exact hrow
  · by_cases hj : j < l.length
    · rw [List.getElem?_append_left hj] at hy
      obtain ⟨ds, h1, h2⟩ := h.rel j y hy
      refine ⟨ds, ?_, hR.2 y ds w1 w2 D _ h2 (fun k hk => hs k (h.dk k hk).1 (h.dk k hk).2.2.2) (fun _ h => .inl h)⟩
      rw [List.getElem?_append_left (by rw [h.len]; exact hj)]
      exact h1
    · have hjl : j = l.length := by
        have := (List.getElem?_eq_some_iff.1 hy).1
        simp at this
        omega
      subst hjl
      simp at hy
      subst hy
      refine ⟨cs, by rw [← h.len]; simp, hR.2 _ cs w1 w2 D1 _ hx (fun k hk => hs k (hD1 k hk).1 (hD1 k hk).2.2.2) (fun _ h => .inr h)⟩
  · obtain ⟨a1, a2, a3, a4⟩ := hall k hk
    refine ⟨by omega, a2, a3, ?_⟩
    rcases hat with e | e
    · rw [e]; exact a4
    · rw [e]; simp; omega
  · rcases hat with e | e
    · exact ⟨g, e.trans hg1, hg2, hg3⟩
    · exact ⟨_, e, by simp; omega, by simp; omega⟩
/-- A list that is done. -/
def LsM {α : Type} (R : Rel α) (size : Nat) (w : World) (D : Nat → Prop) (v : Value) (l : List α) : Prop :=
  ∃ (a : Option Addr) (c : Nat), v = .slice a l.length c ∧ l.length ≤ c ∧ (l ≠ [] → ∃ g, a = some ⟨g, 0, none⟩ ∧ D g ∧ ∀ (i : Nat) (x : α), l[i]? = some x → ∃ cs, R x cs w D ∧ ∀ (j : Nat) (u : Value), cs[j]? = some u → w.cell? ⟨g, i * size + j, none⟩ = some u)
theorem flat_at {css : List (List Value)} {size i j : Nat} {cs : List Value} {u : Value} (hl : ∀ (k : Nat) (ds : List Value), css[k]? = some ds → ds.length = size) (hi : css[i]? = some cs) (hj : cs[j]? = some u) : css.flatten[i * size + j]? = some u := by
  induction css generalizing i with
  | nil => simp at hi
  | cons c css ih =>
    have hc : c.length = size := hl 0 c rfl
    cases i with
    | zero =>
      simp at hi
      subst hi
      have := (List.getElem?_eq_some_iff.1 hj).1
      simp only [List.flatten_cons, Nat.zero_mul, Nat.zero_add]
      rw [List.getElem?_append_left this]
      exact hj
    | succ i =>
      simp only [List.getElem?_cons_succ] at hi
      have := ih (fun k ds hk => hl (k + 1) ds (by simpa using hk)) hi
      simp only [List.flatten_cons]
      rw [List.getElem?_append_right (by rw [hc, Nat.add_mul]; omega)]
      rw [show (i + 1) * size + j - c.length = i * size + j by rw [hc, Nat.add_mul]; omega]
      exact this
theorem LI.done {α : Type} {R : Rel α} {e : TypeId} {size b : Nat} {w wr : World} {v : Value} {D : Nat → Prop} {l : List α} {css : List (List Value)} (hR : R.Ok size) (h : LI R e size b w wr v D l css) : ∃ D', LsM R size wr D' v l ∧ ∀ k, D' k → k < wr.heap.size ∧ k ≠ b ∧ w.heap.size ≤ k := by
  obtain ⟨g, hg1, hg2, hg3⟩ := h.own
  refine ⟨fun k => D k ∨ k = g, ?_, fun k hk => ?_⟩
  · obtain ⟨a, cap, hv, ha, hc⟩ := row_slice h.row
    refine ⟨a, cap, hv, hc, fun hne => ?_⟩
    obtain ⟨g', rfl⟩ : ∃ g', a = some ⟨g', 0, none⟩ := by
      rcases ha with ha | ha
      · exact absurd (List.length_eq_zero_iff.1 ha) hne
      · exact ha
    rw [hv] at hg1
    cases hg1
    refine ⟨g', rfl, .inr rfl, fun i x hx => ?_⟩
    obtain ⟨cs, h1, h2⟩ := h.rel i x hx
    refine ⟨cs, hR.2 x cs wr wr D _ h2 (fun _ _ => rfl) (fun _ h => .inl h), fun j u hj => ?_⟩
    have hrow := h.row
    rw [hv] at hrow
    refine row_cell hrow _ u (flat_at (fun k ds hk => ?_) h1 hj)
    have hkl : k < l.length := by rw [← h.len]; exact (List.getElem?_eq_some_iff.1 hk).1
    obtain ⟨ds', h3, h4⟩ := h.rel k l[k] (List.getElem?_eq_getElem hkl)
    rw [h3] at hk
    cases hk
    exact (hR.1 _ _ _ _ h4).1
  · rcases hk with hk | rfl
    · exact ⟨(h.dk k hk).1, (h.dk k hk).2.1, (h.dk k hk).2.2.1⟩
    · exact ⟨ownsRow_lt h.row hg1, hg2, hg3⟩
end Go.Proofs.YtpjbfdpblgjmfaaGreatDoor

namespace Go.Proofs.YtpjbfdpblgjmfaaGreatDoor
open Go.RowKit Go.Lib

/-- What reading one element leaves. -/
def EPost {α : Type} (R : Rel α) (Sh : List Value → Prop) (val : List Value → Value) (b : Nat) (s : List UInt8) (W : World) (q : α × Cd.Rd) (e : Ending) (w' : World) : Prop :=
  ∃ cs, Sh cs ∧ e = .returned (.tuple #[val cs, errV q.2]) ∧ PM w' b s q.2.pos ∧ W.grownBy w' (some b) ∧ q.2.pos ≤ s.length ∧ (q.2.fk = 0 → q.2.fa = 0 ∧ ∃ D, R q.1 cs w' D ∧ ∀ k, D k → W.heap.size ≤ k ∧ k < w'.heap.size ∧ k ≠ b)
/-- What reading a list leaves. -/
def LPost {α : Type} (R : Rel α) (size b : Nat) (s : List UInt8) (w : World) (q : List α × Cd.Rd) (e : Ending) (w' : World) : Prop :=
  ∃ a n c, e = .returned (.tuple #[.slice a n c, errV q.2]) ∧ PM w' b s q.2.pos ∧ w.grownBy w' (some b) ∧ q.2.pos ≤ s.length ∧ (q.2.fk = 0 → q.2.fa = 0 ∧ ∃ D, LsM R size w' D (.slice a n c) q.1 ∧ ∀ k, D k → w.heap.size ≤ k ∧ k < w'.heap.size ∧ k ≠ b)
theorem LI.after {α : Type} {R : Rel α} {e : TypeId} {size b : Nat} {w w1 w2 : World} {v : Value} {D : Nat → Prop} {l : List α} {css : List (List Value)} {o : Obj} (h : LI R e size b w w1 v D l css) (hg : (w1.alloc o).grownBy w2 v.ownBlock) (hb : b < w1.heap.size) (hw : w.grownBy w1 (some b)) : w2.heap[b]? = w1.heap[b]? ∧ w.grownBy w2 (some b) := by
  obtain ⟨g, hg1, hg2, hg3⟩ := h.own
  rw [hg1] at hg
  have hs : ∀ k, k < w1.heap.size → k ≠ g → w2.heap[k]? = w1.heap[k]? := fun k hk hne => (hg.block k (by simp; omega) (by simp; omega)).trans (Below.heap_alloc w1 o k hk)
  refine ⟨hs b hb (by omega), hg.os.trans hw.os, hg.tape.trans hw.tape, hg.output.trans hw.output, ?_, fun k hk hne => (hs k (Nat.lt_of_lt_of_le hk hw.size) (by omega)).trans (hw.block k hk hne)⟩
  have h1 := hg.size
  have h2 := hw.size
  simp at h1
  omega
theorem LI.start {α : Type} {R : Rel α} {e : TypeId} {size b : Nat} {w w1 : World} {c : Nat} (hs : w.heap.size ≤ w1.heap.size) (hb : b < w1.heap.size) (hm : (w1.alloc (.cells (madeCells #[] 0) e)).heap.size = w1.heap.size + 1) {cur : Array Value} (hc : cur.size = c * size) (hcm : c ≤ maxLen) : LI R e size b w (w1.alloc (.cells cur e)) (.slice (some ⟨w1.heap.size, 0, none⟩) 0 c) (fun _ => False) ([] : List α) [] := by
  refine ⟨⟨by simp, .inr ⟨w1.heap.size, c, cur, rfl, Nat.zero_le _, World.alloc_heap_new w1 _, Nat.zero_le _, hcm, hc, by simp⟩⟩, rfl, fun j x hx => by simp at hx, fun k hk => hk.elim, ⟨w1.heap.size, rfl, by omega, hs⟩⟩

set_option maxRecDepth 100000 in
set_option maxHeartbeats 8000000 in
theorem list_int (w : World) (b : Nat) (s : List UInt8) (p sz : Nat) (cB : Nat) (hcB : w.cell? ⟨cB, 0, none⟩ = some (.pointer (some ⟨b, 0, none⟩))) (hcb : cB ≠ b) (R : Rel Int) (g : Cd.Rd → Int × Cd.Rd) (hR : R.Ok 1) (h : PM w b s p) (hs : s.length ≤ 4000000) (hp : p ≤ s.length) (hz : sz ≤ 2)
    (hE : ∀ (W : World) (q : Nat), PM W b s q → q ≤ s.length → W.cell? ⟨cB, 0, none⟩ = some (.pointer (some ⟨b, 0, none⟩)) → Calls Tryz.prog 88 #[.pointer (some ⟨cB, 0, none⟩)] W (EPost R (fun cs => ∃ a : Int, cs = [.int .i64 a]) (fun cs => cs.headD undef) b s W (g (Cd.Rd.at_ q)))) :
    Calls Tryz.prog 87 #[ptrV b, .int .i64 sz, .func (.func 88) #[] #[.pointer (some ⟨cB, 0, none⟩)]] w (LPost R 1 b s w (Cd.Rd.manyL g (Cd.Rd.num s sz (Cd.Rd.at_ p)).1 (Cd.Rd.num s sz (Cd.Rd.at_ p)).2)) := by
  have HN := hid (number_c w b s p sz h hs hp (by omega))
  have hlt := num_lt2 s p sz hz
  have hle := num_le s sz p hp
  have HS : Hid (Cd.sgn (Cd.Rd.num s sz (Cd.Rd.at_ p)).1 = ((Cd.Rd.num s sz (Cd.Rd.at_ p)).1 : Int)) := Cd.sgn_small (by omega)
  rw [HS.out] at HN
  unfold NmPost at HN
  have hok := num_fa s sz p
  have hbd := num_bad s sz p
  have hbl := h.lt
  clear h HS
  generalize Cd.Rd.num s sz (Cd.Rd.at_ p) = vr at HN hlt hok hbd hle ⊢
  obtain ⟨n, r⟩ := vr
  dsimp only at HN hlt hok hbd hle ⊢
  have HE := hid hE
  clear hE
  unfold ptrV at HN ⊢
  by_cases hr : r.fk = 0
  · obtain rfl := hok hr
    rw [errV_ok hr] at HN
    clear hok hbd hr
    cases n with
    | zero =>
      go_enter Tryz.func87, Tryz.ntmps87
      go_wp2_with (first
        | (go_at_call 83; refine HN.out.mono ?_; clear HN; rintro en w1 ⟨rfl, h1, hg1⟩
           replace h1 := hid h1
           replace hg1 := hid hg1)
        | go_in)
      refine bodyPost_ret (v := .tuple #[.slice none 0 0, .nilIface]) (by simp [results, Tryz.results87, go_sem]) rfl ⟨none, 0, 0, rfl, h1.out, hg1.out, hle, fun _ => ⟨rfl, fun _ => False, ⟨none, 0, rfl, Nat.le_refl _, fun h => absurd rfl h⟩, fun k hk => hk.elim⟩⟩
    | succ n =>
      have hn0 : (((n + 1 : Nat) : Int) == 0) = false := by simp; omega
      obtain ⟨L, hL⟩ : ∃ L : Nat, L = s.length - (p + sz) := ⟨_, rfl⟩
      have HLf := hid (fun (W : World) (hw : PM W b s (p + sz)) => left_c W b s (p + sz) hw hs hle)
      rw [← hL] at HLf
      have hLl : L ≤ 4000000 := by omega
      obtain ⟨c, hc⟩ : ∃ c : Nat, min ((n : Int) + 1) (L : Int) = c := ⟨min (n + 1) L, by omega⟩
      have hcl : c ≤ 65535 := by omega
      obtain ⟨i, hi, hzz⟩ := Option.map_eq_some_iff.1 Tryz.infoInt
      simp only [Prod.mk.injEq] at hzz
      have hmk := fun (W : World) => run_make (P := Tryz.prog) W 87 3 i (.int .i64 0) Tryz.underlying87 hi hzz.1 .i64 .i64 0 c (Int.le_refl _) (by omega) (by rw [hzz.2.2]; omega) (by omega)
      rw [hzz.2.1, Int.toNat_natCast, Int.toNat_zero] at hmk
      clear hL
      go_enter Tryz.func87, Tryz.ntmps87
      go_wp2_with (first
        | (go_at_call 83; refine HN.out.mono ?_; clear HN; rintro en w1 ⟨rfl, h1, hg1⟩
           replace h1 := hid h1
           replace hg1 := hid hg1)
        | (go_at_call 85; refine (HLf.out _ h1.out).mono ?_; clear HLf; rintro en w2 ⟨rfl, n2, hw2⟩; obtain rfl := hw2)
        | go_in)
      have hs1 : w.heap.size ≤ (w1.drewN n2).heap.size := hg1.out.size
      have hb1 : b < (w1.drewN n2).heap.size := Nat.lt_of_lt_of_le hbl hs1
      have HI0 : Hid (LI R 3 1 b w ((w1.drewN n2).alloc (.cells (madeCells #[.int .i64 0] c) 3)) (.slice (some ⟨w1.heap.size, 0, none⟩) 0 c) (fun _ => False) ([] : List Int) []) := LI.start (w1 := w1.drewN n2) hs1 hb1 (by simp) (by simp [size_madeCells]) (by unfold maxLen; omega)
      have HP0 : Hid (PM ((w1.drewN n2).alloc (.cells (madeCells #[.int .i64 0] c) 3)) b s (p + sz)) := (Below.heap_alloc (w1.drewN n2) _ b hb1).trans h1.out
      have HG0 : Hid (w.grownBy ((w1.drewN n2).alloc (.cells (madeCells #[.int .i64 0] c) 3)) (some b)) := grown_alloc (grown_drewN hg1.out) _
      generalize (w1.drewN n2).alloc (.cells (madeCells #[.int .i64 0] c) 3) = W3 at HI0 HP0 HG0 ⊢
      generalize w1.heap.size = gg at HI0 ⊢
      clear hmk hs1 hb1 h1 hg1 hc hi hzz
      go_loopw [10, 32] (fun v t wr => ∃ (i q : Nat) (l : List Int) (css : List (List Value)) (a : Option Addr) (cap : Nat) (D : Nat → Prop), t = .int .i64 i ∧ v = .slice a i cap ∧ i ≤ n + 1 ∧ l.length = i ∧ q ≤ s.length ∧ Hid (PM wr b s q) ∧ Hid (w.grownBy wr (some b)) ∧ Hid (LI R 3 1 b w wr (.slice a i cap) D l css) ∧ Hid (Cd.Rd.manyL g (n + 1) (Cd.Rd.at_ (p + sz)) = (l ++ (Cd.Rd.manyL g (n + 1 - i) (Cd.Rd.at_ q)).1, (Cd.Rd.manyL g (n + 1 - i) (Cd.Rd.at_ q)).2))) (fun _ t _ => n + 1 - (RowKit.intOf t).toNat)
      case atStart => exact ⟨0, p + sz, [], [], _, _, _, rfl, rfl, Nat.zero_le _, rfl, hle, HP0, HG0, HI0, by simp [Hid]⟩
      case round =>
        obtain ⟨i, q, l, css, a0, cap, D, rfl, rfl, hi, hll, hq, HP, HG, HI, HM⟩ := hrel
        by_cases hlt2 : i < n + 1
        · have hgl : (i : Int) < (n : Int) + 1 := by omega
          have HQ := hid (HE.out wr q HP.out hq (HG.out.cell hcB (by simp; omega)))
          unfold EPost at HQ
          obtain ⟨k, hk⟩ : ∃ k, n + 1 - i = k + 1 := ⟨n - i, by omega⟩
          rw [hk] at HM
          rw [many_go g k (Cd.Rd.at_ q) rfl] at HM
          generalize g (Cd.Rd.at_ q) = xr at HQ HM
          obtain ⟨x, r⟩ := xr
          dsimp only at HQ HM
          by_cases hr : r.fk = 0
          · rw [errV_ok hr] at HQ
            go_wp2_with (first
              | (go_at_call 88; refine HQ.out.mono ?_; clear HQ; rintro en w4 ⟨cs, hsh, rfl, h4, hg4, hq4, hd4⟩
                 obtain ⟨a, rfl⟩ := hsh
                 dsimp only [List.headD]
                 have hi4 := LI.each hR HI.out (hg4)
                 have hrow4 := hi4.row
                 rw [hll] at hrow4
                 replace h4 := hid h4
                 replace hg4 := hid hg4
                 replace hd4 := hid hd4
                 replace hi4 := hid hi4
                 replace hrow4 := hid hrow4)
              | (at_builtin; refine list_append rfl _ _ 87 rfl 3 (.int .i64 0) 1 8 Tryz.underlying87 Tryz.infoInt rfl (by decide) (.slice a0 i cap) i css.flatten rfl (hrow4.out.alloc _) ⟨w4.heap.size, 0, none⟩ 1 1 [Value.int .i64 a] rfl rfl (new_cells w4 _ _) (by simp [Value.oneCell']) (by unfold maxLen; omega) (by omega) ?_
                 intro v5 w5 hr5 hg5 hat5
                 have hr5b := hid hr5
                 obtain ⟨a5, cap5, rfl, _, _⟩ := row_slice hr5
                 replace hg5 := hid hg5
                 replace hat5 := hid hat5
                 clear hr5)
              | go_in)
            obtain ⟨hfa, D1, hRx, hDk⟩ := hd4.out hr
            have hrd := rd_ok hr hfa
            have hgs : w.heap.size ≤ wr.heap.size := HG.out.size
            have hg4s : wr.heap.size ≤ w4.heap.size := hg4.out.size
            have hRx2 : R x [Value.int .i64 a] w4 D1 := hRx
            have HI5 := LI.push hR hi4.out (by have := h4.out.lt; omega) hRx2 (fun k hk => by
              obtain ⟨b1, b2, b3⟩ := hDk k hk
              refine ⟨by omega, b3, by omega, fun e => ?_⟩
              have := ownsRow_lt HI.out.row e
              omega) (by omega) (by rw [hll]; exact hr5b.out) hg5.out hat5.out
            obtain ⟨hb5, hg5b⟩ := LI.after hi4.out hg5.out (by have := h4.out.lt; omega) (grown_trans HG.out (hg4.out))
            go_roundw
            case rel =>
              refine ⟨i + 1, r.pos, l ++ [x], css ++ [[Value.int .i64 a]], a5, cap5, (fun k => D k ∨ D1 k), by simp, rfl, by omega, by simp [hll], hq4, hb5.trans (h4.out), hg5b, HI5, ?_⟩
              rw [Hid, HM.out, show n + 1 - (i + 1) = k by omega, ← hrd]
              simp
            case measure => simp [RowKit.intOf]; omega
          · rw [errV_no hr] at HQ
            rw [many_stop g k r hr] at HM
            have HMo := hid (congrArg Prod.snd HM.out)
            dsimp only at HMo
            go_wp2_with (first
              | (go_at_call 88; refine HQ.out.mono ?_; clear HQ; rintro en w4 ⟨cs, hsh, rfl, h4, hg4, hq4, hd4⟩
                 obtain ⟨a, rfl⟩ := hsh
                 dsimp only [List.headD]
                 replace h4 := hid h4
                 replace hg4 := hid hg4
                 clear hd4)
              | go_in)
            refine bodyPost_ret (v := .tuple #[.slice none 0 0, .iface 78 (.agg #[.int .i64 r.fk, .int .i64 r.fa])]) (by simp [results, Tryz.results87, go_sem]) rfl ⟨none, 0, 0, ?_, ?_, grown_trans HG.out hg4.out, ?_, fun h => absurd h ?_⟩
            · rw [HMo.out, errV_no hr]
            · rw [HMo.out]; exact h4.out
            · rw [HMo.out]; exact hq4
            · rw [HMo.out]; exact hr
        · have ei : i = n + 1 := by omega
          subst ei
          have hgl : ¬ (((n : Int) + 1) < (n : Int) + 1) := by omega
          have HMf : Hid (Cd.Rd.manyL g (n + 1) (Cd.Rd.at_ (p + sz)) = (l, Cd.Rd.at_ q)) := by
            rw [Hid, HM.out]
            simp [Cd.Rd.manyL]
          obtain ⟨D', hd1, hd2⟩ := LI.done hR HI.out
          replace hd1 := hid hd1
          replace hd2 := hid hd2
          go_wp2
          rw [HMf.out]
          refine bodyPost_ret (v := .tuple #[.slice a0 (n + 1) cap, .nilIface]) (by simp [results, Tryz.results87, go_sem]) rfl ⟨a0, n + 1, cap, rfl, HP.out, HG.out, hq, fun _ => ⟨rfl, D', hd1.out, fun k hk => ⟨(hd2.out k hk).2.2, (hd2.out k hk).1, (hd2.out k hk).2.1⟩⟩⟩
  · have hb := hbd hr
    simp only [Prod.mk.injEq] at hb
    obtain ⟨rfl, rfl⟩ := hb
    rw [errV_no hr] at HN
    have HP : Hid (Cd.Rd.manyL g 0 ⟨p, 13, s.length⟩ = ([], ⟨p, 13, s.length⟩)) := rfl
    clear hok hbd hr
    go_enter Tryz.func87, Tryz.ntmps87
    go_wp2_with (first
      | (go_at_call 83; refine HN.out.mono ?_; clear HN; rintro en w1 ⟨rfl, h1, hg1⟩
         replace h1 := hid h1
         replace hg1 := hid hg1)
      | go_in)
    rw [HP.out]
    exact bodyPost_ret (v := .tuple #[.slice none 0 0, .iface 78 (.agg #[.int .i64 13, .int .i64 s.length])]) (by simp [results, Tryz.results87, go_sem]) rfl ⟨none, 0, 0, by rw [errV_no (by simp)]; rfl, h1.out, hg1.out, hp, fun h => by simp at h⟩
end Go.Proofs.YtpjbfdpblgjmfaaGreatDoor
