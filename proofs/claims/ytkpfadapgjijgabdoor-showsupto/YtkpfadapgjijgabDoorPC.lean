/-
  The document's check of a type: its two loops.
-/
import Derived.Test.YtkpfadapgjijgabDoorPB
import Derived.Sort.Walk0
namespace Go.Proofs.YtkpfadapgjijgabDoor
open Go.RowKit

def ProperOK (j : Nat) : Prop := ∀ (w0 w : World) (k n r : Int) (os az : Value), Below w0.heap.size w0 w → Rdb w0 j os az →
  Calls Tryd.prog 7 #[.agg #[.int .i64 k, .int .i64 n, .int .i64 r, os, az], .int .i64 (301 - (j : Int))] w fun en w' => PropPost w0 w k n r os az en w'

/-- The first names are none of them empty, and in order. -/
def opsOK (o : List (List UInt8)) (j : Nat) : Prop := (∀ x ∈ o.take j, x ≠ []) ∧ Ty.inOrder (o.take j)

theorem ops_one {o : List (List UInt8)} (h : 0 < o.length) (he : ¬ o[0] = []) : opsOK o 1 := by
  match o, h with
  | x :: r, _ => simpa [opsOK, Ty.inOrder] using he
theorem inOrder_snoc : ∀ (l : List (List UInt8)) (y x : List UInt8), Ty.inOrder (l ++ [y]) → ¬ x < y → Ty.inOrder (l ++ [y] ++ [x]) := by
  intro l
  induction l with
  | nil => intro y x _ h; simpa [Ty.inOrder] using h
  | cons a r ih =>
    intro y x h hx
    cases r with
    | nil => simp [Ty.inOrder] at h ⊢; exact ⟨h, hx⟩
    | cons b r =>
      simp only [List.cons_append, Ty.inOrder] at h ⊢
      exact ⟨h.1, by simpa using ih y x (by simpa using h.2) hx⟩
theorem ops_next {o : List (List UInt8)} {m : Nat} (h : m + 1 < o.length) (he : ¬ o[m + 1] = []) (hp : opsOK o (m + 1)) : ¬ o[m + 1] < o[m] → opsOK o (m + 2) := by
  intro hlt
  have e1 : o.take (m + 2) = o.take (m + 1) ++ [o[m + 1]] := by rw [List.take_succ_eq_append_getElem h]
  have e2 : o.take (m + 1) = o.take m ++ [o[m]] := by rw [List.take_succ_eq_append_getElem (by omega)]
  refine ⟨?_, ?_⟩
  · rw [e1]
    intro x hx
    rcases List.mem_append.1 hx with h1 | h1
    · exact hp.1 x h1
    · rw [List.mem_singleton.1 h1]; exact he
  · rw [e1, e2]
    exact inOrder_snoc _ _ _ (by rw [← e2]; exact hp.2) hlt

/-- The first elements are types. -/
def elsOK (w : World) (g o : Nat) (l : List Ty.P) : Prop := ∀ i (h : i < l.length), l[i].ok ∧ ∃ os az, ElT w g (o + i * 5) l[i] os az ∧ IsT w l[i] os az
def sumP (l : List Ty.P) : Nat := (l.map Ty.P.parts).sum

theorem OpsV.cells {w : World} {a : Option Addr} {c : Nat} {o : List (List UInt8)} (h : OpsV w (.slice a o.length c) o) (h0 : o ≠ []) :
    ∃ g k, a = some ⟨g, k, none⟩ ∧ ∀ i (h : i < o.length), w.cell? ⟨g, k + i, none⟩ = some (.string ⟨o[i].toArray⟩) := by
  obtain ⟨a', c', h1, _, h3⟩ := h
  simp only [Value.slice.injEq] at h1
  rw [h1.1]
  exact h3 h0

/-- The world while it looks: the type's own box stands behind what was there. -/
structure PSt (w wr : World) (ao aa : Option Addr) (lo co la ca : Nat) : Prop where
  bel : Below w.heap.size w wr
  sz : w.heap.size < wr.heap.size
  c3 : wr.cell? ⟨w.heap.size, 3, none⟩ = some (.slice ao lo co)
  c4 : wr.cell? ⟨w.heap.size, 4, none⟩ = some (.slice aa la ca)
theorem PSt.start (w : World) (k n r : Int) (ao aa : Option Addr) (lo co la ca q : Nat) : PSt w ((w.alloc (.cells #[.int .i64 k, .int .i64 n, .int .i64 r, .slice ao lo co, .slice aa la ca] 25)).drewN q) ao aa lo co la ca where
  bel := below_dn ((Below.refl _ _).alloc (Nat.le_refl _) _) q
  sz := by simp
  c3 := by simp [go_sem]
  c4 := by simp [go_sem]
theorem PSt.drewN {w wr : World} {ao aa : Option Addr} {lo co la ca : Nat} (h : PSt w wr ao aa lo co la ca) (q : Nat) : PSt w (wr.drewN q) ao aa lo co la ca :=
  ⟨below_dn h.bel q, by simpa using h.sz, by simpa [go_sem] using h.c3, by simpa [go_sem] using h.c4⟩
theorem PSt.past {w wr w2 : World} {ao aa : Option Addr} {lo co la ca : Nat} (h : PSt w wr ao aa lo co la ca) (hb : Below wr.heap.size wr w2) : PSt w w2 ao aa lo co la ca :=
  ⟨h.bel.trans (hb.mono (Nat.le_of_lt h.sz)), Nat.lt_of_lt_of_le h.sz hb.size, (hb.cell (p := ⟨w.heap.size, 3, none⟩) h.sz).trans h.c3, (hb.cell (p := ⟨w.heap.size, 4, none⟩) h.sz).trans h.c4⟩

theorem argsN_le (k : Int) : argsN k ≤ 2 := by
  unfold argsN
  split
  · omega
  · split
    · omega
    · split <;> omega
theorem sumP_snoc (l : List Ty.P) (t : Ty.P) : sumP (l ++ [t]) = sumP l + t.parts := by simp [sumP]

theorem prop_yes {w0 w w' : World} {k n r s : Int} {o : List (List UInt8)} {ao aa : Option Addr} {co la ca : Nat} {l : List Ty.P}
    (hf : fine k n r o.length) (hk : (la : Int) = argsN k) (hO : OpsV w0 (.slice ao o.length co) o) (hx : ∀ x ∈ o, x.length ≤ 1048576) (hp : opsOK o o.length) (hl : l.length = la)
    (hA : la ≠ 0 → ∃ g o, aa = some ⟨g, o, none⟩) (he : ∀ g o, aa = some ⟨g, o, none⟩ → elsOK w0 g o l) (hla : la ≤ ca) (hs : s = ((1 + o.length + sumP l : Nat) : Int)) (h300 : l ≠ [] → s ≤ 300)
    (hb : Below w.heap.size w w') : PropPost w0 w k n r (.slice ao o.length co) (.slice aa la ca) (.returned (.tuple #[.int .i64 s, .bool true])) w' := by
  refine ⟨s, true, rfl, hb, fun _ => ?_⟩
  obtain ⟨f1, f2, f3, f4, f5⟩ := hf
  have hpp : (∀ x ∈ o, x ≠ []) ∧ Ty.inOrder o := by simpa [opsOK] using hp
  unfold argsN at hk
  by_cases k0 : k = 0
  · subst k0
    have : la = 0 := by simpa using hk
    subst this
    obtain ⟨g1, g2⟩ := f3 (by omega)
    obtain rfl : l = [] := List.length_eq_zero_iff.1 hl
    subst g2
    rw [g1] at hs ⊢
    obtain ⟨q, rfl⟩ : ∃ q : Nat, n = q := ⟨n.toNat, by have := (f1 rfl).1; omega⟩
    exact ⟨.var q, by have := f1 rfl; simp [Ty.P.ok]; omega, rfl, rfl, rfl, ⟨⟨_, _, rfl⟩, ⟨_, _, rfl⟩⟩, by simpa [sumP, Ty.P.parts] using hs, by simp [Ty.P.parts]⟩
  have n0 := f2 k0
  subst n0
  by_cases k6 : k = 6
  · subst k6
    have hl2 : la = 2 := by have : (la : Int) = 2 := by simpa using hk
                            omega
    subst hl2
    match l, hl with
    | [a, b], _ =>
      obtain ⟨g, of, rfl⟩ := hA (by omega)
      obtain ⟨a1, os1, az1, a2, a3⟩ := he g of rfl 0 (by simp)
      obtain ⟨b1, os2, az2, b2, b3⟩ := he g of rfl 1 (by simp)
      obtain ⟨q, rfl⟩ : ∃ q : Nat, r = q := ⟨r.toNat, by omega⟩
      have hsum : s = ((1 + o.length + a.parts + b.parts : Nat) : Int) := by rw [hs]; simp [sumP]; omega
      have h3 := h300 (by simp)
      refine ⟨.fn a b o q, ⟨a1, b1, by omega, fun x hx2 => ⟨hpp.1 x hx2, hx x hx2⟩, hpp.2⟩, rfl, rfl, rfl, ⟨hO, g, of, ca, os1, az1, os2, az2, rfl, hla, by simpa using a2, a3, by simpa using b2, b3⟩, by simpa [Ty.P.parts] using hsum, by simp only [Ty.P.parts]; omega⟩
  obtain ⟨g1, rfl⟩ := f3 k6
  have o0 : o = [] := List.length_eq_zero_iff.1 g1
  subst o0
  by_cases k4 : k = 4
  · subst k4
    have hl2 : la = 1 := by have : (la : Int) = 1 := by simpa using hk
                            omega
    subst hl2
    match l, hl with
    | [a], _ =>
      obtain ⟨g, of, rfl⟩ := hA (by omega)
      obtain ⟨a1, os1, az1, a2, a3⟩ := he g of rfl 0 (by simp)
      have hsum : s = ((1 + a.parts : Nat) : Int) := by rw [hs]; simp [sumP]
      have h3 := h300 (by simp)
      refine ⟨.list a, a1, rfl, rfl, rfl, ⟨⟨_, _, rfl⟩, g, of, ca, os1, az1, rfl, hla, by simpa using a2, a3⟩, by simpa [Ty.P.parts] using hsum, by simp only [Ty.P.parts]; omega⟩
  by_cases k5 : k = 5
  · subst k5
    have hl2 : la = 2 := by have : (la : Int) = 2 := by simpa using hk
                            omega
    subst hl2
    match l, hl with
    | [a, b], _ =>
      obtain ⟨g, of, rfl⟩ := hA (by omega)
      obtain ⟨a1, os1, az1, a2, a3⟩ := he g of rfl 0 (by simp)
      obtain ⟨b1, os2, az2, b2, b3⟩ := he g of rfl 1 (by simp)
      have hsum : s = ((1 + a.parts + b.parts : Nat) : Int) := by rw [hs]; simp [sumP]; omega
      have h3 := h300 (by simp)
      refine ⟨.pair a b, ⟨a1, b1⟩, rfl, rfl, rfl, ⟨⟨_, _, rfl⟩, g, of, ca, os1, az1, os2, az2, rfl, hla, by simpa using a2, a3, by simpa using b2, b3⟩, by simpa [Ty.P.parts] using hsum, by simp only [Ty.P.parts]; omega⟩
  have kk : k = 1 ∨ k = 2 ∨ k = 3 := by
    simp [k0, k4, k5, k6] at hk
    by_cases h1 : k = 1
    · exact .inl h1
    · by_cases h2 : k = 2
      · exact .inr (.inl h2)
      · by_cases h3 : k = 3
        · exact .inr (.inr h3)
        · simp [h1, h2, h3] at hk
  have hl0 : la = 0 := by
    rcases kk with rfl | rfl | rfl <;> (have : (la : Int) = 0 := by simpa using hk) <;> omega
  subst hl0
  obtain rfl : l = [] := List.length_eq_zero_iff.1 hl
  have hs1 : s = 1 := by simpa [sumP] using hs
  rcases kk with rfl | rfl | rfl
  · exact ⟨.int, trivial, rfl, rfl, rfl, ⟨⟨_, _, rfl⟩, ⟨_, _, rfl⟩⟩, by simpa [Ty.P.parts] using hs1, by simp [Ty.P.parts]⟩
  · exact ⟨.bool, trivial, rfl, rfl, rfl, ⟨⟨_, _, rfl⟩, ⟨_, _, rfl⟩⟩, by simpa [Ty.P.parts] using hs1, by simp [Ty.P.parts]⟩
  · exact ⟨.unit, trivial, rfl, rfl, rfl, ⟨⟨_, _, rfl⟩, ⟨_, _, rfl⟩⟩, by simpa [Ty.P.parts] using hs1, by simp [Ty.P.parts]⟩

set_option maxRecDepth 100000 in
set_option maxHeartbeats 4000000 in
theorem proper_main (j : Nat) (hj : j ≤ 300) (hI : ProperOK j) (w0 w : World) (hw0 : Below w0.heap.size w0 w) (k n r : Int) (o : List (List UInt8)) (ao aa : Option Addr) (co la ca : Nat)
    (hO : OpsV w0 (.slice ao o.length co) o) (hx : ∀ x ∈ o, x.length ≤ 1048576) (hla : la ≤ ca)
    (hA : la ≠ 0 → ∃ g o, aa = some ⟨g, o, none⟩ ∧ ∀ i, i < la → ∃ k m r os' az', El w0 g (o + i * 5) k m r os' az' ∧ Rdb w0 j os' az')
    (ha : (la : Int) = argsN k) (hl : ¬ 300 < o.length) (hf : fine k n r o.length) :
    Calls Tryd.prog 7 #[.agg #[.int .i64 k, .int .i64 n, .int .i64 r, .slice ao o.length co, .slice aa la ca], .int .i64 (300 - (j : Int))] w
      fun en w' => PropPost w0 w k n r (.slice ao o.length co) (.slice aa la ca) en w' := by
  have hdd : decide (300 < 300 - (j : Int)) = false := by simp; omega
  have hab : ((la : Int) != argsN k) = false := by simpa using ha
  have hlb : decide ((300 : Int) < (o.length : Int)) = false := by simp; omega
  have hla2 : la ≤ 2 := by have := argsN_le k; omega
  have HA := hid hA
  have HW := hid hw0
  have hws := hw0.size
  clear hw0
  have HO := hid hO
  have HX := hid hx
  have HI := hid hI
  have HF := hid hf
  have HK := hid ha
  have hlo : o.length ≤ 300 := by omega
  obtain ⟨lo, hlo2⟩ : ∃ lo, lo = o.length := ⟨_, rfl⟩
  rw [← hlo2] at hlb hlo hl hf
  rw [← hlo2]
  have HL := hid hlo2
  clear hA hO hx hI ha hlo2
  go_enter Tryd.func7, Tryd.ntmps7
  go_wp2_with fail
  go_quiet ((go_at_call 11; exact Calls.quiet_of_same (args_any _ _)))
  have hc : (k = 0 ∧ ¬ n < 1 ∧ ¬ 1000000000 < n ∧ ¬ 0 < lo ∧ r = 0) ∨ (k ≠ 0 ∧ k ≠ 6 ∧ n = 0 ∧ ¬ 0 < lo ∧ r = 0) ∨ (k = 6 ∧ n = 0 ∧ ¬ r < 0 ∧ ¬ 1000000000 < r) := by
    unfold fine at hf
    by_cases k0 : k = 0
    · subst k0; simp at hf ⊢; omega
    · by_cases k6 : k = 6
      · subst k6; simp at hf ⊢; omega
      · simp [k0, k6] at hf ⊢; omega
  clear hf
  rcases hc with ⟨rfl, h1, h2, h3, rfl⟩ | ⟨k0, k6, rfl, h3, rfl⟩ | ⟨rfl, rfl, h1, h2⟩
  all_goals go_wp2_with fail
  all_goals
    go_loopw [8] (fun t wr => ∃ m : Nat, t = .int .i64 m ∧ m ≤ lo ∧ Hid (PSt w wr ao aa lo co la ca) ∧ Hid (opsOK o m)) (fun t _ => lo - (intOf t).toNat)
    case atStart => exact ⟨0, rfl, Nat.zero_le _, PSt.start .., by simp [Hid, opsOK, Ty.inOrder]⟩
  all_goals
    obtain ⟨m, rfl, hm, HS, HP⟩ := hrel
    have c3 := HS.out.c3
    have HB0 := hid (HW.out.trans (HS.out.bel.mono HW.out.size))
    have c4 := HS.out.c4
  all_goals by_cases hlt : m < lo
  any_goals (exfalso; omega)
  rotate_left 2
  · have hlt2 : m < o.length := by rw [← HL.out]; exact hlt
    obtain ⟨g, ko, hao, hcell⟩ := (HO.out.carry HB0.out.block).cells (by intro h; rw [h] at hlt2; simp at hlt2)
    subst hao
    have HC := hid hcell
    clear hcell
    by_cases he : o[m] = []
    · have ce := HC.out m hlt2
      rw [he] at ce
      go_wp2_with fail
      go_quiet (fail)
      go_wp2_with fail
      go_ret2
      exact prop_no (by repeat (with_reducible (first | exact HS.out.bel | apply Below.drew | apply below_dn)))
    · cases m with
      | zero =>
        have ce := HC.out 0 hlt2
        simp only [Nat.add_zero] at ce
        have HX1 := hid (ops_one (o := o) hlt2 he)
        obtain ⟨x, hx⟩ : ∃ x, x = o[0] := ⟨_, rfl⟩
        rw [← hx] at ce he
        clear hx
        have hee : (x == ([] : List UInt8)) = false := by simpa using he
        go_wp2_with fail
        go_quiet (fail)
        go_wp2_with fail
        go_roundw
        case rel => exact ⟨1, by go_num, by omega, HS.out.drewN _, HX1⟩
        case measure => simp [intOf]; omega
      | succ m =>
        have ce := HC.out (m + 1) hlt2
        have cp := HC.out m (by omega)
        have HN := hid (ops_next (o := o) hlt2 he HP.out)
        obtain ⟨x, hx⟩ : ∃ x, x = o[m + 1] := ⟨_, rfl⟩
        obtain ⟨y, hy⟩ : ∃ y, y = o[m] := ⟨_, rfl⟩
        rw [← hx] at ce he
        rw [← hy] at cp
        rw [← hx, ← hy] at HN
        clear hx hy
        have hee : (x == ([] : List UInt8)) = false := by simpa using he
        have hpos : decide (0 < (m : Int) + 1) = true := by simp
        by_cases hxy : x < y
        · have hg : (!Op.bytesLess y x && !(y == x)) = true := by
            rw [bytesLess_eq]
            have h1 : ¬ y < x := List.lt_asymm hxy
            have h2 : ¬ y = x := by rintro rfl; exact List.lt_irrefl _ hxy
            simp [h1, h2]
          go_wp2_with fail
          go_quiet (fail)
          go_wp2_with fail
          go_ret2
          exact prop_no (by repeat (with_reducible (first | exact HS.out.bel | apply Below.drew | apply below_dn)))
        · have hg : (!Op.bytesLess y x && !(y == x)) = false := by
            rw [bytesLess_eq]
            by_cases h2 : y = x
            · simp [h2]
            · have h1 : y < x := by
                rcases Decidable.em (y < x) with h | h
                · exact h
                · exact absurd (List.le_antisymm (List.not_lt.1 hxy) (List.not_lt.1 h)) h2
              simp [h1]
          go_wp2_with fail
          go_quiet (fail)
          go_wp2_with fail
          go_roundw
          case rel => exact ⟨m + 2, by go_num, by omega, HS.out.drewN _, HN.out hxy⟩
          case measure => simp [intOf]; omega
  all_goals
    have hme : m = lo := by omega
    have HP2 : Hid (opsOK o lo) := by rw [← hme]; exact HP
    clear hme HP
    go_wp2_with fail
    clear hlt hm
    go_loopw [9, 10] (fun c t wq => ∃ (l : List Ty.P) (s : Int), t = .int .i64 l.length ∧ c = .int .i64 s ∧ l.length ≤ la ∧ 0 ≤ s ∧ s ≤ 301 ∧ Hid (s = ((1 + lo + sumP l : Nat) : Int)) ∧ Hid (l ≠ [] → s ≤ 300) ∧ Hid (PSt w wq ao aa lo co la ca) ∧ Hid (∀ g o, aa = some ⟨g, o, none⟩ → elsOK w0 g o l)) (fun _ t _ => la - (intOf t).toNat)
    case atStart => exact ⟨[], 1 + lo, rfl, rfl, Nat.zero_le _, by omega, by omega, by simp [Hid, sumP], fun h => absurd rfl h, HS, fun _ _ _ i hi => absurd hi (by simp)⟩
  all_goals
    obtain ⟨l, s, rfl, rfl, hl1, hs0, hs1, HSU, HS3, HS2, HE⟩ := hrel
    have d4 := HS2.out.c4
  all_goals
    by_cases hlt : l.length < la
    · obtain ⟨g, of, haa, hel⟩ := HA.out (by omega)
      obtain ⟨k', m', r', os', az', hE1, hR1⟩ := hel l.length hlt
      subst haa
      have hgl := hE1.lt
      have HB1 := hid (HW.out.trans (HS2.out.bel.mono HW.out.size))
      have HE2 := hid (hE1.of_heap (HB1.out.block g hgl))
      have HE1 := hid hE1
      have HR := hid hR1
      clear hel hE1 hR1
      obtain ⟨e0, e1, e2, e3, e4⟩ := HE2.out
      go_wp2_with fail
      rw [show (300 - (j : Int) + 1) = 301 - (j : Int) by omega]
      refine (HI.out w0 _ k' m' r' os' az' HB1.out HR.out).mono ?_
      rintro en w2 ⟨c, ok, rfl, hb2, hok⟩
      have HB2 := hid hb2
      have HOK := hid hok
      have HT := hid (HS2.out.past hb2)
      clear hb2 hok
      cases ok with
      | false =>
        go_wp2_with fail
        go_ret2
        exact prop_no (by repeat (with_reducible (first | exact HT.out.bel | apply Below.drew | apply below_dn)))
      | true =>
        obtain ⟨t, ht1, ht2, ht3, ht4, ht5, ht6, ht7⟩ := HOK.out rfl
        subst ht2 ht3 ht4 ht6
        have HTT : Hid (t.ok ∧ ElT w0 g (of + l.length * 5) t os' az' ∧ IsT w0 t os' az') := ⟨ht1, HE1.out, ht5⟩
        clear ht1 ht5 HOK
        have hpp := t.parts_pos
        obtain ⟨q, hq⟩ : ∃ q, q = t.parts := ⟨_, rfl⟩
        rw [← hq] at ht7 hpp ⊢
        have HQ := hid hq
        clear hq
        by_cases h300 : 300 < s + (q : Int)
        · go_wp2_with fail
          go_ret2
          exact prop_no (by repeat (with_reducible (first | exact HT.out.bel | apply Below.drew | apply below_dn)))
        · go_wp2_with fail
          go_roundw
          case rel =>
            refine ⟨l ++ [t], s + q, by rw [List.length_append]; go_num, rfl, by simp; omega, by omega, by omega, ?_, fun _ => by omega, HT, ?_⟩
            · have h1 := HSU.out
              have h2 := HQ.out
              simp only [Hid, sumP_snoc]
              omega
            · intro g' o' hgo i hi
              obtain ⟨u1, u2, u3⟩ := HTT.out
              by_cases hil : i < l.length
              · rw [List.getElem_append_left hil]
                exact HE.out g' o' hgo i hil
              · have e : i = l.length := by simp at hi; omega
                subst e
                rw [List.getElem_append_right (Nat.le_refl _)]
                simp only [Option.some.injEq, Addr.mk.injEq] at hgo
                obtain ⟨rfl, rfl, _⟩ := hgo
                simp only [Nat.sub_self, List.getElem_singleton]
                exact ⟨u1, os', az', u2, u3⟩
          case measure => simp [intOf]; omega
    · go_wp2_with fail
      go_ret2
      have hol := HL.out
      subst hol
      exact prop_yes HF.out HK.out HO.out HX.out HP2.out (by omega) (fun h => let ⟨g, o, h1, _⟩ := HA.out h; ⟨g, o, h1⟩) HE.out hla HSU.out HS3.out (by repeat (with_reducible (first | exact HS2.out.bel | apply Below.drew | apply below_dn)))

theorem proper_any : ∀ (j : Nat), j ≤ 301 → ProperOK j := by
  intro j
  induction j with
  | zero => intro _ w0 w k n r os az _ _; exact proper_deep w0 w k n r _ os az (by omega)
  | succ j ih =>
    intro hj w0 w k n r os az hw hR
    obtain ⟨⟨o, hO, hx⟩, aa, la, ca, rfl, hla, hA⟩ := hR
    obtain ⟨ao, co, rfl, _⟩ := id hO
    rw [show (301 - ((j + 1 : Nat) : Int)) = 300 - (j : Int) by omega]
    have hd : ¬ 300 < 300 - (j : Int) := by omega
    by_cases ha : (la : Int) = argsN k
    · by_cases hl : 300 < o.length
      · exact proper_many w0 w k n r _ ao aa _ co la ca hd ha hl
      · by_cases hf : fine k n r o.length
        · exact proper_main j (by omega) (ih (by omega)) w0 w hw k n r o ao aa co la ca hO hx hla hA ha hl hf
        · exact proper_odd w0 w k n r _ ao aa _ co la ca hd ha hl hf
    · exact proper_args w0 w k n r _ ao aa _ co la ca hd ha

/-- The document's Proper: true just of a type that is proper, to be read from the world it began in. -/
def ProperPost (w : World) (k n r : Int) (os az : Value) (en : Ending) (w' : World) : Prop :=
  ∃ ok : Bool, en = .returned (.bool ok) ∧ Below w.heap.size w w' ∧ (ok = true → ∃ t : Ty.P, t.ok ∧ k = t.kind ∧ n = t.num ∧ r = t.row ∧ IsT w t os az ∧ t.parts ≤ 300)
set_option maxHeartbeats 1000000 in
theorem proper_top (w : World) (k n r : Int) (os az : Value) (h : Rdb w 301 os az) :
    Calls Tryd.prog 4 #[.agg #[.int .i64 k, .int .i64 n, .int .i64 r, os, az]] w fun en w' => ProperPost w k n r os az en w' := by
  have H := hid h
  clear h
  go_enter Tryd.func4, Tryd.ntmps4
  go_wp2_with fail
  refine (proper_any 301 (Nat.le_refl _) w _ k n r os az ((Below.refl _ _).alloc (Nat.le_refl _) _) H.out).mono ?_
  rintro en w2 ⟨c, ok, rfl, hb, hok⟩
  have HB := hid ((Below.alloc (Below.refl w.heap.size w) (Nat.le_refl _) _).trans (hb.mono (by simp)))
  have HK := hid hok
  clear hb hok
  cases ok with
  | false =>
    go_wp2
    go_ret
    exact ⟨false, rfl, HB.out, fun h => by cases h⟩
  | true =>
    obtain ⟨t, t1, t2, t3, t4, t5, t6, t7⟩ := HK.out rfl
    subst t2 t3 t4 t6
    have HT : Hid (t.ok ∧ IsT w t os az) := ⟨t1, t5⟩
    clear t1 t5 HK
    have h7 : (t.parts : Int) ≤ 300 := by omega
    go_wp2
    go_ret
    exact ⟨_, rfl, HB.out, fun _ => ⟨t, HT.out.1, rfl, rfl, rfl, HT.out.2, t7⟩⟩
end Go.Proofs.YtkpfadapgjijgabDoor
