/-
  The program's New, Get, Set.
-/
import Derived.Test.YtidgppghakmkaaaHy
import Derived.Laws.MakeOwn
set_option linter.unusedVariables false
set_option linter.unusedSimpArgs false
namespace Go.Proofs.Ytidgppghakmkaaa
open Go.RowKit Go.Shelf Hp
attribute [local simp] wide_fn

section
variable {n : Nat} {P : Program} {Q : Exit → Act → World → Prop}
/-- Outside of a round: the first so many operations of a region only read. -/
theorem wp_region_split {id : Nat} {os : List Oper} {a : Act} {w : World} (k f0 : Nat) (hm : P.follows .mixedOrders = true) (hk : k + f0 = os.length) (hs : Region.noSelect os.toArray = true)
    (hW : waitsB .any os.toArray k (Array.replicate os.length false) = true) (hB : lexPre .any os.toArray k 0 (Array.replicate os.length false) = true)
    (h : wpQuietIn Fence.wide 0 P os.toArray (fun w' => ∃ j, w' = w.drewN j) (fun a' => ∀ w', (∃ j, w' = w.drewN j) → wpAnyIn Fence.wide 0 P .any os.toArray Q f0 ((List.range' 0 k).foldl (fun s i => s.setIfInBounds i true) (Array.replicate os.length false)) a' w') (os.take k) a) :
    (Code.region id os.toArray true).wp P Q a w := by
  refine (wpIn_wide (n := 0)).1 (wpIn_region_any hm ?_)
  have e : os.toArray.size = os.length := by simp
  rw [e]
  have h0 : leftN k (Array.replicate os.length false) = k := by
    unfold leftN
    rw [List.filter_eq_self.2]
    · simp
    · intro x hx
      rw [Array.getD_eq_getD_getElem?, Array.getElem?_replicate]
      split <;> rfl
  have := wpAnyIn_splitK (F := Fence.wide) (n := 0) (P := P) (Q := Q) (md := .any) (w := w.drew) (w0 := w) k f0 rfl (by omega) hs (by have := Clsd.none (md := .any) (ops := os.toArray); rwa [e] at this) h0 hW hB ⟨1, rfl⟩ h
  rw [hk] at this
  exact this
end

namespace Hp
/-- Kinds and tags that a cell has room for. -/
def TOk (T : List Th) : Prop := ∀ t ∈ T, (0 ≤ t.kind ∧ t.kind ≤ 4) ∧ (0 ≤ t.tag ∧ t.tag ≤ 65535)
theorem lay0_head {T : List Th} {f : Nat → PC} (h : Lay T f (g0 T)) {i : Nat} {t : Th} (ht : T[i]? = some t) : f (ad T i) = ⟨2, t.kind, t.tag, (t.l.length : Nat), 0⟩ := by
  have := h i t ht 0 (Nat.zero_le _)
  rw [Nat.add_zero] at this
  rw [this]
  simp [g0, headC, thOf_at ht]
theorem lay0_first {T : List Th} {f : Nat → PC} (h : Lay T f (g0 T)) {i : Nat} {t : Th} (ht : T[i]? = some t) : firstF f (used T) ((ad T i : Nat) : Int) = ⟨2, t.kind, t.tag, (t.l.length : Nat), 0⟩ := by
  have h1 := lay0_head h ht
  have hu := ad_used ht
  have hs : t.size = t.l.length + 1 := rfl
  have h2 : ad T i < used T := by omega
  simp [firstF, liesF, h1, h2]
theorem lay0_field {T : List Th} {f : Nat → PC} (h : Lay T f (g0 T)) {i j : Nat} {t : Th} (ht : T[i]? = some t) (hj : j < t.l.length) : f (ad T i + (j + 1)) = field (clOf T i j) (clOf T i j).n := h i t ht (j + 1) (by omega)
theorem pc_ok {T : List Th} (hok : TOk T) {i N : Nat} {t : Th} (ht : T[i]? = some t) (hN : used T ≤ N) (hM : N ≤ 1000000) : PC.ok ⟨2, t.kind, t.tag, (t.l.length : Nat), 0⟩ := by
  obtain ⟨h1, h2⟩ := hok t (List.mem_of_getElem? ht)
  have hu := ad_used ht
  have hs : t.size = t.l.length + 1 := rfl
  refine ⟨?_, ?_, ?_, ?_⟩ <;> dsimp only <;> omega
/-- A field is another one. -/
def setC (T : List Th) (i j : Nat) (c : Cl) : List Th := match T[i]? with
  | some t => T.set i { t with l := t.l.set j c }
  | none => T
theorem setC_size {T : List Th} {i j : Nat} {c : Cl} (k : Nat) : (setC T i j c)[k]?.map Th.size = T[k]?.map Th.size := by
  unfold setC
  split
  · rename_i t ht
    rw [List.getElem?_set]
    split
    · rename_i e
      subst e
      have hi := (List.getElem?_eq_some_iff.1 ht).1
      rw [if_pos hi, ht]
      simp [Th.size]
    · rfl
  · rfl
theorem map_size_eq {T U : List Th} (h : ∀ k : Nat, T[k]?.map Th.size = U[k]?.map Th.size) : T.map Th.size = U.map Th.size := by
  apply List.ext_getElem?
  intro k
  rw [List.getElem?_map, List.getElem?_map]
  exact h k
theorem ad_eq {T U : List Th} (h : T.map Th.size = U.map Th.size) (k : Nat) : ad T k = ad U k := by
  unfold ad
  rw [List.map_take, List.map_take, h]
theorem used_eq {T U : List Th} (h : T.map Th.size = U.map Th.size) : used T = used U := by
  unfold used
  rw [h]
theorem setC_ad (T : List Th) (i j : Nat) (c : Cl) (k : Nat) : ad (setC T i j c) k = ad T k := ad_eq (map_size_eq setC_size) k
theorem setC_used (T : List Th) (i j : Nat) (c : Cl) : used (setC T i j c) = used T := used_eq (map_size_eq setC_size)
theorem setC_at {T : List Th} {i j : Nat} {c : Cl} {t : Th} (ht : T[i]? = some t) : (setC T i j c)[i]? = some { t with l := t.l.set j c } := by
  have hi := (List.getElem?_eq_some_iff.1 ht).1
  unfold setC
  rw [ht]
  dsimp only
  rw [List.getElem?_set_self hi]
theorem setC_other {T : List Th} {i j k : Nat} {c : Cl} (h : k ≠ i) : (setC T i j c)[k]? = T[k]? := by
  unfold setC
  split
  · rw [List.getElem?_set, if_neg (Ne.symm h)]
  · rfl
theorem Lay.setC {T : List Th} {f : Nat → PC} (h : Lay T f (g0 T)) {i j : Nat} {t : Th} (ht : T[i]? = some t) (hj : j < t.l.length) (c : Cl) : Lay (Hp.setC T i j c) (Hp.upd f (ad T i + (j + 1)) (field c c.n)) (g0 (Hp.setC T i j c)) := by
  intro k u hu m hm
  rw [setC_ad]
  have h1 := h.upd ht (k := j + 1) (by omega) (field c c.n)
  by_cases e : k = i
  · subst e
    rw [setC_at ht] at hu
    obtain rfl := Option.some.inj hu
    have hm' : m ≤ t.l.length := by simpa using hm
    rw [h1 k t ht m hm']
    cases m with
    | zero =>
      unfold upd2
      rw [if_neg (fun h => by cases h.2)]
      simp [g0, headC, thOf_at ht, thOf_at (setC_at ht)]
    | succ m =>
      unfold upd2
      by_cases e2 : m = j
      · subst e2
        have hjl : m < t.l.length := hj
        rw [if_pos ⟨rfl, rfl⟩]
        have : clOf (Hp.setC T k m c) k m = c := by rw [clOf_at (setC_at ht)]; simp [List.getD, hjl]
        simp [g0, this]
      · rw [if_neg (fun h => e2 (by have := h.2; omega))]
        have : clOf (Hp.setC T k j c) k m = clOf T k m := by rw [clOf_at (setC_at ht), clOf_at ht]; simp [List.getD, List.getElem?_set, Ne.symm e2]
        simp [g0, this]
  · rw [setC_other e] at hu
    rw [h1 k u hu m hm]
    unfold upd2
    rw [if_neg (fun h => e h.1)]
    have hk : (Hp.setC T i j c)[k]? = T[k]? := setC_other e
    cases m with
    | zero => simp [g0, headC, thOf, hk]
    | succ m => simp [g0, clOf, hk]
end Hp

set_option maxRecDepth 100000 in
set_option maxHeartbeats 4000000 in
theorem Get_any (w : World) (hb g N : Nat) (T : List Th) (f : Nat → PC) (H : HM w hb g N f (used T)) (hL : Lay T f (g0 T)) (hok : TOk T) (i j : Nat) (t : Th) (ht : T[i]? = some t) (hj : j < t.l.length) :
    Calls Try.prog 12 #[.pointer (some ⟨hb, 0, none⟩), .int .i64 (ad T i : Nat), .int .i64 (j : Nat)] w fun e w' => e = .returned (.agg #[.bool (clOf T i j).ptr, .int .i64 (clOf T i j).n]) ∧ Ch (fun _ => False) w w' := by
  obtain ⟨V, hV⟩ : ∃ V, w.alloc (.cells #[.bool false, .int .i64 0] 43) = V := ⟨_, rfl⟩
  have hcV : Ch (fun _ => False) w V := by rw [← hV]; exact (Ch.refl _ w).al _
  have hB : V.heap[w.heap.size]? = some (.cells #[.bool false, .int .i64 0] 43 (0, 0)) := by rw [← hV]; exact World.alloc_heap_new w _
  have HV := H.keep hcV
  have hu := ad_used ht
  have hs : t.size = t.l.length + 1 := rfl
  have hle := H.le
  have hmx := H.max
  have hfirst := lay0_first hL ht
  have HH := has_any V hb g N f (used T) HV ((ad T i : Nat) : Int) (j : Int) (by rw [hfirst]; exact pc_ok hok ht hle hmx)
  rw [hfirst] at HH
  have hd1 : (decide ((0 : Int) ≤ (j : Int)) && decide ((j : Int) < ((t.l.length : Nat) : Int))) = true := by simp [hj]
  dsimp only at HH
  rw [hd1] at HH
  have hq : ad T i + (j + 1) < N := by omega
  have hqI : ((ad T i : Nat) : Int) + 1 + (j : Int) < (N : Int) := by omega
  have hq0 : (0 : Int) ≤ ((ad T i : Nat) : Int) + 1 + (j : Int) := by omega
  have htn : (((ad T i : Nat) : Int) + 1 + (j : Int)).toNat = ad T i + (j + 1) := by omega
  have hw1 : IntKind.i64.wrap (((ad T i : Nat) : Int) + 1) = ((ad T i : Nat) : Int) + 1 := IntWalk.i64_in _ (by omega)
  have hw2 : IntKind.i64.wrap (((ad T i : Nat) : Int) + 1 + (j : Int)) = ((ad T i : Nat) : Int) + 1 + (j : Int) := IntWalk.i64_in _ (by omega)
  have hfj := lay0_field hL ht hj
  have HcV := hid hcV
  have HHV := hid HV
  have hBB := hid hB
  have hwl : hb < w.heap.size := (Array.getElem?_eq_some_iff.1 H.hd).1
  have hgl : g < w.heap.size := (Array.getElem?_eq_some_iff.1 H.row).1
  clear H hL hok hfirst hcV HV hB
  have fin : ∀ (b : Bool) (q : Int) (w1 : World) (a' : Act), Ch (fun _ => False) V w1 → a'.defers = [] → a'.tmps[6]? = some (.pointer (some ⟨w.heap.size, 0, none⟩)) → (clOf T i j).ptr = b →
      bodyPost Try.prog Try.f12 (fun e w' => e = .returned (.agg #[.bool (clOf T i j).ptr, .int .i64 (clOf T i j).n]) ∧ Ch (fun _ => False) w w') .ret a' (((w1.alloc (.cells #[.int .u8 q, .int .u8 0, .int .u16 0, .int .u32 0, .int .i64 (clOf T i j).n] 61)).setCell ⟨w.heap.size, 0, none⟩ (.bool b)).setCell ⟨w.heap.size, 1, none⟩ (.int .i64 (clOf T i j).n)) := by
    intro b q w1 a' hc1 hd h6 hb'
    have z2 := (Array.getElem?_eq_some_iff.1 hBB.out).1
    have b1 := (hc1.same w.heap.size z2 (fun h => h)).trans hBB.out
    have b2 := blk_alloc (x := .cells #[.int .u8 q, .int .u8 0, .int .u16 0, .int .u32 0, .int .i64 (clOf T i j).n] 61) b1
    have hY := blk_set (i := 1) (v := .int .i64 (clOf T i j).n) (blk_set (i := 0) (v := .bool b) b2)
    have hcY : Ch (fun _ => False) w (((w1.alloc (.cells #[.int .u8 q, .int .u8 0, .int .u16 0, .int .u32 0, .int .i64 (clOf T i j).n] 61)).setCell ⟨w.heap.size, 0, none⟩ (.bool b)).setCell ⟨w.heap.size, 1, none⟩ (.int .i64 (clOf T i j).n)) :=
      HcV.out.trans (((((hc1.mono (fun _ h => h.elim)).al _).set (O := fun k => k = w.heap.size) (a := ⟨w.heap.size, 0, none⟩) rfl _).set (a := ⟨w.heap.size, 1, none⟩) rfl _)) (fun k hk => .inr (by omega))
    generalize ((w1.alloc (.cells #[.int .u8 q, .int .u8 0, .int .u16 0, .int .u32 0, .int .i64 (clOf T i j).n] 61)).setCell ⟨w.heap.size, 0, none⟩ (.bool b)).setCell ⟨w.heap.size, 1, none⟩ (.int .i64 (clOf T i j).n) = Y at hY hcY ⊢
    have y0 : Y.cell? ⟨w.heap.size, 0, none⟩ = some (.bool b) := by simp [World.cell?, hY]
    have y1 : Y.cell? ⟨w.heap.size, 1, none⟩ = some (.int .i64 (clOf T i j).n) := by simp [World.cell?, hY]
    rw [hb']
    refine bodyPost_ret (v := .agg #[.bool b, .int .i64 (clOf T i j).n]) ?_ hd ⟨rfl, hcY⟩
    simp [results, Try.results12, go_sem, h6, y0, y1]
  replace fin := hid fin
  cases hp : (clOf T i j).ptr
  all_goals
    rw [hp] at fin
    go_enter Try.func12, Try.ntmps12
    go_upto_region 1 with (fail)
    clear hV
    go_wp2_with (go_at_call 19; refine HH.mono ?_; clear HH; rintro e w1 ⟨rfl, hc1⟩; have H1 := HHV.out.keep hc1; obtain ⟨h0, -, -⟩ := H1.head; obtain ⟨c0, c1, c2, c3, c4⟩ := H1.five hq; rw [hfj] at c0 c1 c2 c3 c4; simp only [field, hp] at c0 c1 c2 c3 c4; have z2 := (Array.getElem?_eq_some_iff.1 hBB.out).1; have b1 := (hc1.same w.heap.size z2 (fun h => h)).trans hBB.out; have b10 : ∀ o, (w1.alloc o).cell? ⟨w.heap.size, 0, none⟩ = some (.bool false) := (fun o => by simp only [World.cell?, blk_alloc (x := o) b1]; rfl); have b11 : ∀ o, (w1.alloc o).cell? ⟨w.heap.size, 1, none⟩ = some (.int .i64 0) := (fun o => by simp only [World.cell?, blk_alloc (x := o) b1]; rfl); have b1f : ∀ o i, (w1.alloc o).frozen? ⟨w.heap.size, i, none⟩ = false := (fun o i => by simp [World.frozen?, blk_alloc (x := o) b1]); have z1 := hc1.size; have hnz : ¬ w.heap.size = w1.heap.size := (by omega); have hnz2 : ¬ w1.heap.size = w.heap.size := (by omega); have HC1 := hid hc1; clear hc1 b1 H1 HHV)
    refine fin.out _ _ w1 _ HC1.out ?_ ?_ rfl <;> rfl
end Go.Proofs.Ytidgppghakmkaaa
