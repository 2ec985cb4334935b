/-
  What the document writes of a type: arrows; then of every type.
-/
import Derived.Test.YtkpfadapgjijgabDoorSC
import Derived.Deep.Cut
namespace Go.Proofs.YtkpfadapgjijgabDoor
open Go.RowKit

theorem size_mk (l : List UInt8) : (⟨l.toArray⟩ : ByteArray).size = l.length := by simp [ByteArray.size]
theorem take_len (o : List (List UInt8)) (m : Nat) (h : ∀ x ∈ o, x.length ≤ 1048576) (hl : o.length ≤ 300) : (Ty.joinC (o.take m)).length ≤ 314573400 := by
  have h1 := Ty.joinC_len (o.take m) (fun x hx => h x (List.mem_of_mem_take hx))
  have h2 : (o.take m).length ≤ 300 := by rw [List.length_take]; omega
  omega
theorem join_step (o : List (List UInt8)) (m : Nat) (h : m < o.length) : Ty.joinC (o.take (m + 1)) = (if m = 0 then [] else Ty.joinC (o.take m) ++ [44, 32]) ++ o[m] := by
  rw [List.take_succ_eq_append_getElem h, Ty.joinC_snoc]
  by_cases h0 : m = 0
  · subst h0; simp
  · have : o.take m ≠ [] := by intro e; have := congrArg List.length e; simp at this; rcases this with h2 | h2 <;> first | exact h0 h2 | (rw [h2] at h; simp at h)
    rw [if_neg this, if_neg h0]

set_option maxRecDepth 100000 in
set_option maxHeartbeats 16000000 in
theorem show_fn (t u : Ty.P) (ops : List (List UInt8)) (r : Nat) (hS : ShowOK t) (hU : ShowOK u) (hlen : t.text.length ≤ 400000000) (hlen2 : u.text.length ≤ 400000000)
    (hops : ∀ x ∈ ops, x ≠ [] ∧ x.length ≤ 1048576) (hl : ops.length ≤ 300) (hr : r ≤ 1000000000) : ShowOK (.fn t u ops r) := by
  rintro w os az ⟨⟨a, c, rfl, hc, hcells⟩, g, o, d, os', az', os2, az2, rfl, hd, hE, hT, hF, hT2⟩
  have HOC := hid hcells
  have HOP := hid hops
  have HS := hid hS
  have HU := hid hU
  have hg := hE.lt
  have hgn : ¬ g = w.heap.size := by omega
  have HT := hid hT
  have HT2 := hid hT2
  obtain ⟨e0, e1, e2, e3, e4⟩ := hE
  obtain ⟨f0, f1, f2, f3, f4⟩ := hF
  clear hS hU hT hT2 hcells hops
  simp only [Ty.P.kind, Ty.P.num, Ty.P.row]
  have hab : ((2 : Int) != argsN 6) = false := by simp [argsN]
  have HX : Hid ((Ty.P.fn t u ops r).text = Ty.br t 1 t.text ++ Ty.arrowT ops r ++ Ty.br u 0 u.text) := rfl
  have hbl : (Ty.br t 1 t.text).length ≤ 400000002 := by have := Ty.br_len t 1 t.text; omega
  have hbl2 : (Ty.br u 0 u.text).length ≤ 400000002 := by have := Ty.br_len u 0 u.text; omega
  have HIN := hid (in_1 HS.out hlen)
  have HIN2 := hid (in_0 HU.out hlen2)
  generalize Ty.br t 1 t.text = y at hbl HX HIN ⊢
  generalize Ty.br u 0 u.text = z at hbl2 HX HIN2 ⊢
  obtain ⟨lo, hlo⟩ : ∃ lo, lo = ops.length := ⟨_, rfl⟩
  rw [← hlo] at hc hl ⊢
  have HLO := hid hlo
  clear hlo
  go_enter Tryd.func6, Tryd.ntmps6
  go_wp2_with fail
  go_quiet ((go_at_call 11; exact Calls.quiet_of_same (args_any _ _)))
  obtain ⟨W, hW⟩ : ∃ W, W = ((w.alloc (.cells #[.int .i64 6, .int .i64 0, .int .i64 r, .slice a lo c, .slice (some ⟨g, o, none⟩) 2 d] 25)).drewN nq) := ⟨_, rfl⟩
  rw [← hW]
  have hBW : Below w.heap.size w W := by rw [hW]; exact below_dn ((Below.refl _ _).alloc (Nat.le_refl _) _) nq
  have hH : w.heap.size < W.heap.size := by rw [hW]; simp
  have hgW : g < W.heap.size := by omega
  have b0 : W.cell? ⟨w.heap.size, 0, none⟩ = some (.int .i64 6) := by rw [hW]; simp [go_sem]
  have b2 : W.cell? ⟨w.heap.size, 2, none⟩ = some (.int .i64 r) := by rw [hW]; simp [go_sem]
  have b3 : W.cell? ⟨w.heap.size, 3, none⟩ = some (.slice a lo c) := by rw [hW]; simp [go_sem]
  have b4 : W.cell? ⟨w.heap.size, 4, none⟩ = some (.slice (some ⟨g, o, none⟩) 2 d) := by rw [hW]; simp [go_sem]
  have HTW := hid (HT.out.past hBW)
  have HTW2 := hid (HT2.out.past hBW)
  have HBW := hid hBW
  replace e0 := past_cells hBW hg e0
  replace e1 := past_cells hBW hg e1
  replace e2 := past_cells hBW hg e2
  replace e3 := past_cells hBW hg e3
  replace e4 := past_cells hBW hg e4
  replace f0 := past_cells hBW hg f0
  replace f1 := past_cells hBW hg f1
  replace f2 := past_cells hBW hg f2
  replace f3 := past_cells hBW hg f3
  replace f4 := past_cells hBW hg f4
  have HOW : Hid (ops ≠ [] → ∃ g k, a = some ⟨g, k, none⟩ ∧ ∀ i (h : i < ops.length), W.cell? ⟨g, k + i, none⟩ = some (.string ⟨ops[i].toArray⟩)) := by
    intro h0
    obtain ⟨g, k, h1, h2⟩ := HOC.out h0
    exact ⟨g, k, h1, fun i hi => past_cells hBW (World.block_lt_of_cell? w _ (h2 i hi)) (h2 i hi)⟩
  clear hW hBW HT HT2 HOC
  go_wp2_with fail
  go_loop [3, 4] (fun s v => ∃ m : Nat, v = .int .i64 m ∧ s = .string ⟨(Ty.joinC (ops.take m)).toArray⟩ ∧ m ≤ lo) (fun _ v => lo - (intOf v).toNat)
  case atStart => exact ⟨0, rfl, by simp [Ty.joinC], Nat.zero_le _⟩
  case round =>
    obtain ⟨m, rfl, rfl, hm⟩ := hrel
    have htl := take_len ops m (fun x hx => (HOP.out x hx).2) (by rw [← HLO.out]; exact hl)
    by_cases hlt : m < lo
    · have hlt2 : m < ops.length := by rw [← HLO.out]; exact hlt
      have HJ := hid (join_step ops m hlt2)
      obtain ⟨g2, k2, ha, hcell⟩ := HOW.out (by intro h; rw [h] at hlt2; simp at hlt2)
      have ce := hcell m hlt2
      have hxl := (HOP.out _ (List.getElem_mem hlt2)).2
      generalize ops[m] = x at ce hxl HJ
      clear hcell
      subst ha
      by_cases h0 : m = 0
      · subst h0
        simp only [Nat.add_zero] at ce
        simp only [List.take_zero, Ty.joinC]
        go_wp2_with fail
        go_round
        case rel => exact ⟨1, by go_num, by rw [HJ.out, if_pos rfl]; exact congrArg Value.string (str_ext (by simp [ByteArray.data_append])), by omega⟩
        case measure => simp [intOf]; omega
      · have h1 : 0 < m := by omega
        generalize Ty.joinC (ops.take m) = jj at htl HJ ⊢
        go_wp2_with fail
        go_round
        case rel => exact ⟨m + 1, by go_num, by rw [HJ.out, if_neg h0]; exact congrArg Value.string (str_ext (by simp [ByteArray.data_append])), by omega⟩
        case measure => simp [intOf]; omega
    · have hme : m = ops.length := by have := HLO.out; omega
      have hj : Ty.joinC (ops.take m) = Ty.joinC ops := by rw [hme, List.take_length]
      rw [hj] at htl ⊢
      have HY : Hid (Ty.arrowT ops r = Ty.wrapT (Ty.barT (Ty.joinC ops) r)) := rfl
      rw [HY.out] at HX
      clear HY hj hme
      generalize Ty.joinC ops = x at htl HX ⊢
      generalize hbt0 : Ty.barT x r = bt at HX
      have HBT0 := hid hbt0
      clear hbt0
      by_cases hr0 : r = 0
      · subst hr0
        have HBX : Hid (bt = x) := by rw [← HBT0.out]; simp [Hid, Ty.barT]
        by_cases hx0 : x = []
        · subst hx0
          go_upto_region 34 with fail
          generalize hSd : (⟨#[32, 45, 62, 32]⟩ : ByteArray) = S
          have hSs : S.size ≤ 320000000 := by rw [← hSd]; decide
          have HSL : Hid (S.data.toList = Ty.wrapT bt) := by rw [Hid, ← hSd, HBX.out]; simp [Ty.wrapT]
          clear hSd
          have hHV := hH
          have hgV := hgW
          have HTV := HTW
          have HTV2 := HTW2
          have HBV := HBW
          clear b0 b2 b3
          have kA := fun (W : World) => run_string_add_sum (P := Tryd.prog) W ⟨y.toArray⟩ S (by rw [size_mk]; omega)
          have kB := fun (W : World) => run_string_add_sum (P := Tryd.prog) W (⟨y.toArray⟩ ++ S) ⟨z.toArray⟩ (by simp only [ByteArray.size_append, size_mk]; omega)
          clear hSs
          go_region_held3 (fun w' => w'.cell? ⟨w.heap.size, 4, none⟩ = some (.slice (some ⟨g, o, none⟩) 2 d) ∧ w'.cell? ⟨g, o, none⟩ = some (.int .i64 t.kind) ∧ w'.cell? ⟨g, o + 1, none⟩ = some (.int .i64 t.num) ∧ w'.cell? ⟨g, o + 2, none⟩ = some (.int .i64 t.row) ∧ w'.cell? ⟨g, o + 3, none⟩ = some os' ∧ w'.cell? ⟨g, o + 4, none⟩ = some az' ∧ w'.cell? ⟨g, o + 5, none⟩ = some (.int .i64 u.kind) ∧ w'.cell? ⟨g, o + 5 + 1, none⟩ = some (.int .i64 u.num) ∧ w'.cell? ⟨g, o + 5 + 2, none⟩ = some (.int .i64 u.row) ∧ w'.cell? ⟨g, o + 5 + 3, none⟩ = some os2 ∧ w'.cell? ⟨g, o + 5 + 4, none⟩ = some az2) (go_keep)
            ((first
              | (go_at_call_of 13 (Value.int .i64 1); refine (HIN.out _ os' az' (by exact HTV.out.at rfl)).mono ?_; rintro en w1 ⟨rfl, HB1⟩
                 have k4 := past_cells HB1.out hHV b4
                 have k5 := past_cells HB1.out hgV e0
                 have k6 := past_cells HB1.out hgV e1
                 have k7 := past_cells HB1.out hgV e2
                 have k8 := past_cells HB1.out hgV e3
                 have k9 := past_cells HB1.out hgV e4
                 have l5 := past_cells HB1.out hgV f0
                 have l6 := past_cells HB1.out hgV f1
                 have l7 := past_cells HB1.out hgV f2
                 have l8 := past_cells HB1.out hgV f3
                 have l9 := past_cells HB1.out hgV f4
                 have hH1 : w.heap.size < w1.heap.size := Nat.lt_of_lt_of_le hHV HB1.out.size
                 have hg1 : g < w1.heap.size := Nat.lt_of_lt_of_le hgV HB1.out.size)
              | (go_at_call_of 13 (Value.int .i64 0); refine (HIN2.out _ os2 az2 (by exact IsT.at (IsT.past (HTV2.out.at (by rfl)) HB1.out) (by rfl))).mono ?_; rintro en w2 ⟨rfl, HB2⟩
                 have m4 := past_cells HB2.out hH1 k4
                 have m5 := past_cells HB2.out hg1 k5
                 have m6 := past_cells HB2.out hg1 k6
                 have m7 := past_cells HB2.out hg1 k7
                 have m8 := past_cells HB2.out hg1 k8
                 have m9 := past_cells HB2.out hg1 k9
                 have n5 := past_cells HB2.out hg1 l5
                 have n6 := past_cells HB2.out hg1 l6
                 have n7 := past_cells HB2.out hg1 l7
                 have n8 := past_cells HB2.out hg1 l8
                 have n9 := past_cells HB2.out hg1 l9)))
          all_goals
            go_wp2_with fail
            go_ret
            refine str_fin (by rw [HX.out, ← HSL.out]; simp [ByteArray.data_append]) ?_
            refine Below.trans ?_ (HB2.out.mono (Nat.le_of_lt hH1))
            repeat (with_reducible (apply Below.drew))
            refine Below.trans ?_ (HB1.out.mono (Nat.le_of_lt hHV))
            repeat (with_reducible (first | exact HBV.out | apply Below.drew))
        · have hbt : bt ≠ [] := by rw [HBX.out]; exact hx0
          have hx1 : (x == ([] : List UInt8)) = false := by simpa using hx0
          have hx2 : (x != ([] : List UInt8)) = true := by simpa using hx0
          have HXL : Hid (x = bt) := HBX.out.symm
          have hXs : x.length ≤ 319999000 := by omega
          go_upto_region 34 with fail
          generalize hSd : (⟨#[32, 45, 123]⟩ ++ ⟨x.toArray⟩ ++ ⟨#[125, 45, 62, 32]⟩ : ByteArray) = S
          have hSs : S.size ≤ 320000000 := by rw [← hSd]; simp [ByteArray.size]; omega
          have HSL : Hid (S.data.toList = Ty.wrapT bt) := by rw [Hid, ← hSd]; simp [ByteArray.data_append, HXL.out, Ty.wrapT, hbt]
          clear hSd
          have hHV := hH
          have hgV := hgW
          have HTV := HTW
          have HTV2 := HTW2
          have HBV := HBW
          clear b0 b2 b3
          have kA := fun (W : World) => run_string_add_sum (P := Tryd.prog) W ⟨y.toArray⟩ S (by rw [size_mk]; omega)
          have kB := fun (W : World) => run_string_add_sum (P := Tryd.prog) W (⟨y.toArray⟩ ++ S) ⟨z.toArray⟩ (by simp only [ByteArray.size_append, size_mk]; omega)
          clear hSs
          go_region_held3 (fun w' => w'.cell? ⟨w.heap.size, 4, none⟩ = some (.slice (some ⟨g, o, none⟩) 2 d) ∧ w'.cell? ⟨g, o, none⟩ = some (.int .i64 t.kind) ∧ w'.cell? ⟨g, o + 1, none⟩ = some (.int .i64 t.num) ∧ w'.cell? ⟨g, o + 2, none⟩ = some (.int .i64 t.row) ∧ w'.cell? ⟨g, o + 3, none⟩ = some os' ∧ w'.cell? ⟨g, o + 4, none⟩ = some az' ∧ w'.cell? ⟨g, o + 5, none⟩ = some (.int .i64 u.kind) ∧ w'.cell? ⟨g, o + 5 + 1, none⟩ = some (.int .i64 u.num) ∧ w'.cell? ⟨g, o + 5 + 2, none⟩ = some (.int .i64 u.row) ∧ w'.cell? ⟨g, o + 5 + 3, none⟩ = some os2 ∧ w'.cell? ⟨g, o + 5 + 4, none⟩ = some az2) (go_keep)
            ((first
              | (go_at_call_of 13 (Value.int .i64 1); refine (HIN.out _ os' az' (by exact HTV.out.at rfl)).mono ?_; rintro en w1 ⟨rfl, HB1⟩
                 have k4 := past_cells HB1.out hHV b4
                 have k5 := past_cells HB1.out hgV e0
                 have k6 := past_cells HB1.out hgV e1
                 have k7 := past_cells HB1.out hgV e2
                 have k8 := past_cells HB1.out hgV e3
                 have k9 := past_cells HB1.out hgV e4
                 have l5 := past_cells HB1.out hgV f0
                 have l6 := past_cells HB1.out hgV f1
                 have l7 := past_cells HB1.out hgV f2
                 have l8 := past_cells HB1.out hgV f3
                 have l9 := past_cells HB1.out hgV f4
                 have hH1 : w.heap.size < w1.heap.size := Nat.lt_of_lt_of_le hHV HB1.out.size
                 have hg1 : g < w1.heap.size := Nat.lt_of_lt_of_le hgV HB1.out.size)
              | (go_at_call_of 13 (Value.int .i64 0); refine (HIN2.out _ os2 az2 (by exact IsT.at (IsT.past (HTV2.out.at (by rfl)) HB1.out) (by rfl))).mono ?_; rintro en w2 ⟨rfl, HB2⟩
                 have m4 := past_cells HB2.out hH1 k4
                 have m5 := past_cells HB2.out hg1 k5
                 have m6 := past_cells HB2.out hg1 k6
                 have m7 := past_cells HB2.out hg1 k7
                 have m8 := past_cells HB2.out hg1 k8
                 have m9 := past_cells HB2.out hg1 k9
                 have n5 := past_cells HB2.out hg1 l5
                 have n6 := past_cells HB2.out hg1 l6
                 have n7 := past_cells HB2.out hg1 l7
                 have n8 := past_cells HB2.out hg1 l8
                 have n9 := past_cells HB2.out hg1 l9)))
          all_goals
            go_wp2_with fail
            go_ret
            refine str_fin (by rw [HX.out, ← HSL.out]; simp [ByteArray.data_append]) ?_
            refine Below.trans ?_ (HB2.out.mono (Nat.le_of_lt hH1))
            repeat (with_reducible (apply Below.drew))
            refine Below.trans ?_ (HB1.out.mono (Nat.le_of_lt hHV))
            repeat (with_reducible (first | exact HBV.out | apply Below.drew))
      · have hr1 : 0 < r := by omega
        have hdl := Ty.dig_small hr
        have HDG := hid (fun (V : World) => digits_any r V hr)
        have HBT : Hid (bt = (if x = [] then [] else x ++ [32]) ++ 124 :: 32 :: 114 :: Ty.dig r) := by rw [← HBT0.out]; simp [Hid, Ty.barT, hr0]
        generalize Ty.dig r = dg at hdl HDG HBT
        have hbt : bt ≠ [] := by rw [HBT.out]; simp
        by_cases hx0 : x = []
        · subst hx0
          go_wp2_with fail
          refine (HDG.out _).mono ?_
          rintro en W1 ⟨rfl, hb1⟩
          have HBW1 := hid hb1
          clear hb1
          go_upto_region 32 with fail
          generalize hXd : (⟨#[]⟩ ++ ⟨#[124, 32, 114]⟩ ++ ⟨dg.toArray⟩ : ByteArray) = X
          have hXs : X.size ≤ 319999000 := by rw [← hXd]; simp [ByteArray.size]; omega
          have HXL : Hid (X.data.toList = bt) := by rw [Hid, ← hXd, HBT.out]; simp [ByteArray.data_append]
          have hX1 : (X.toList == ([] : List UInt8)) = false := by rw [Lib.toList_data, HXL.out]; simpa using hbt
          have hX2 : (X.toList != ([] : List UInt8)) = true := by rw [Lib.toList_data, HXL.out]; simpa using hbt
          clear hXd
          go_upto_region 34 with fail
          generalize hSd : (⟨#[32, 45, 123]⟩ ++ X ++ ⟨#[125, 45, 62, 32]⟩ : ByteArray) = S
          have hSs : S.size ≤ 320000000 := by
            have h1 : (⟨#[32, 45, 123]⟩ : ByteArray).size = 3 := rfl
            have h2 : (⟨#[125, 45, 62, 32]⟩ : ByteArray).size = 4 := rfl
            rw [← hSd, ByteArray.size_append, ByteArray.size_append, h1, h2]; omega
          have HSL : Hid (S.data.toList = Ty.wrapT bt) := by rw [Hid, ← hSd]; simp [ByteArray.data_append, HXL.out, Ty.wrapT, hbt]
          clear hSd
          have hHV : w.heap.size < W1.heap.size := Nat.lt_of_lt_of_le hH HBW1.out.size
          have hgV : g < W1.heap.size := Nat.lt_of_lt_of_le hgW HBW1.out.size
          replace b4 := past_cells HBW1.out hH b4
          replace e0 := past_cells HBW1.out hgW e0
          replace e1 := past_cells HBW1.out hgW e1
          replace e2 := past_cells HBW1.out hgW e2
          replace e3 := past_cells HBW1.out hgW e3
          replace e4 := past_cells HBW1.out hgW e4
          replace f0 := past_cells HBW1.out hgW f0
          replace f1 := past_cells HBW1.out hgW f1
          replace f2 := past_cells HBW1.out hgW f2
          replace f3 := past_cells HBW1.out hgW f3
          replace f4 := past_cells HBW1.out hgW f4
          have HTV := hid (HTW.out.past HBW1.out)
          have HTV2 := hid (HTW2.out.past HBW1.out)
          have HBV := hid (HBW.out.trans (HBW1.out.mono (Nat.le_of_lt hH)))
          clear b0 b2 b3
          have kA := fun (W : World) => run_string_add_sum (P := Tryd.prog) W ⟨y.toArray⟩ S (by rw [size_mk]; omega)
          have kB := fun (W : World) => run_string_add_sum (P := Tryd.prog) W (⟨y.toArray⟩ ++ S) ⟨z.toArray⟩ (by simp only [ByteArray.size_append, size_mk]; omega)
          clear hSs
          go_region_held3 (fun w' => w'.cell? ⟨w.heap.size, 4, none⟩ = some (.slice (some ⟨g, o, none⟩) 2 d) ∧ w'.cell? ⟨g, o, none⟩ = some (.int .i64 t.kind) ∧ w'.cell? ⟨g, o + 1, none⟩ = some (.int .i64 t.num) ∧ w'.cell? ⟨g, o + 2, none⟩ = some (.int .i64 t.row) ∧ w'.cell? ⟨g, o + 3, none⟩ = some os' ∧ w'.cell? ⟨g, o + 4, none⟩ = some az' ∧ w'.cell? ⟨g, o + 5, none⟩ = some (.int .i64 u.kind) ∧ w'.cell? ⟨g, o + 5 + 1, none⟩ = some (.int .i64 u.num) ∧ w'.cell? ⟨g, o + 5 + 2, none⟩ = some (.int .i64 u.row) ∧ w'.cell? ⟨g, o + 5 + 3, none⟩ = some os2 ∧ w'.cell? ⟨g, o + 5 + 4, none⟩ = some az2) (go_keep)
            ((first
              | (go_at_call_of 13 (Value.int .i64 1); refine (HIN.out _ os' az' (by exact HTV.out.at rfl)).mono ?_; rintro en w1 ⟨rfl, HB1⟩
                 have k4 := past_cells HB1.out hHV b4
                 have k5 := past_cells HB1.out hgV e0
                 have k6 := past_cells HB1.out hgV e1
                 have k7 := past_cells HB1.out hgV e2
                 have k8 := past_cells HB1.out hgV e3
                 have k9 := past_cells HB1.out hgV e4
                 have l5 := past_cells HB1.out hgV f0
                 have l6 := past_cells HB1.out hgV f1
                 have l7 := past_cells HB1.out hgV f2
                 have l8 := past_cells HB1.out hgV f3
                 have l9 := past_cells HB1.out hgV f4
                 have hH1 : w.heap.size < w1.heap.size := Nat.lt_of_lt_of_le hHV HB1.out.size
                 have hg1 : g < w1.heap.size := Nat.lt_of_lt_of_le hgV HB1.out.size)
              | (go_at_call_of 13 (Value.int .i64 0); refine (HIN2.out _ os2 az2 (by exact IsT.at (IsT.past (HTV2.out.at (by rfl)) HB1.out) (by rfl))).mono ?_; rintro en w2 ⟨rfl, HB2⟩
                 have m4 := past_cells HB2.out hH1 k4
                 have m5 := past_cells HB2.out hg1 k5
                 have m6 := past_cells HB2.out hg1 k6
                 have m7 := past_cells HB2.out hg1 k7
                 have m8 := past_cells HB2.out hg1 k8
                 have m9 := past_cells HB2.out hg1 k9
                 have n5 := past_cells HB2.out hg1 l5
                 have n6 := past_cells HB2.out hg1 l6
                 have n7 := past_cells HB2.out hg1 l7
                 have n8 := past_cells HB2.out hg1 l8
                 have n9 := past_cells HB2.out hg1 l9)))
          all_goals
            go_wp2_with fail
            go_ret
            refine str_fin (by rw [HX.out, ← HSL.out]; simp [ByteArray.data_append]) ?_
            refine Below.trans ?_ (HB2.out.mono (Nat.le_of_lt hH1))
            repeat (with_reducible (apply Below.drew))
            refine Below.trans ?_ (HB1.out.mono (Nat.le_of_lt hHV))
            repeat (with_reducible (first | exact HBV.out | apply Below.drew))
        · have hx1 : (x == ([] : List UInt8)) = false := by simpa using hx0
          have hx2 : (x != ([] : List UInt8)) = true := by simpa using hx0
          go_wp2_with fail
          refine (HDG.out _).mono ?_
          rintro en W1 ⟨rfl, hb1⟩
          have HBW1 := hid hb1
          clear hb1
          go_upto_region 32 with fail
          generalize hXd : (⟨x.toArray⟩ ++ ⟨#[32]⟩ ++ ⟨#[124, 32, 114]⟩ ++ ⟨dg.toArray⟩ : ByteArray) = X
          have hXs : X.size ≤ 319999000 := by rw [← hXd]; simp [ByteArray.size]; omega
          have HXL : Hid (X.data.toList = bt) := by rw [Hid, ← hXd, HBT.out]; simp [ByteArray.data_append, hx0]
          have hX1 : (X.toList == ([] : List UInt8)) = false := by rw [Lib.toList_data, HXL.out]; simpa using hbt
          have hX2 : (X.toList != ([] : List UInt8)) = true := by rw [Lib.toList_data, HXL.out]; simpa using hbt
          clear hXd
          go_upto_region 34 with fail
          generalize hSd : (⟨#[32, 45, 123]⟩ ++ X ++ ⟨#[125, 45, 62, 32]⟩ : ByteArray) = S
          have hSs : S.size ≤ 320000000 := by
            have h1 : (⟨#[32, 45, 123]⟩ : ByteArray).size = 3 := rfl
            have h2 : (⟨#[125, 45, 62, 32]⟩ : ByteArray).size = 4 := rfl
            rw [← hSd, ByteArray.size_append, ByteArray.size_append, h1, h2]; omega
          have HSL : Hid (S.data.toList = Ty.wrapT bt) := by rw [Hid, ← hSd]; simp [ByteArray.data_append, HXL.out, Ty.wrapT, hbt]
          clear hSd
          have hHV : w.heap.size < W1.heap.size := Nat.lt_of_lt_of_le hH HBW1.out.size
          have hgV : g < W1.heap.size := Nat.lt_of_lt_of_le hgW HBW1.out.size
          replace b4 := past_cells HBW1.out hH b4
          replace e0 := past_cells HBW1.out hgW e0
          replace e1 := past_cells HBW1.out hgW e1
          replace e2 := past_cells HBW1.out hgW e2
          replace e3 := past_cells HBW1.out hgW e3
          replace e4 := past_cells HBW1.out hgW e4
          replace f0 := past_cells HBW1.out hgW f0
          replace f1 := past_cells HBW1.out hgW f1
          replace f2 := past_cells HBW1.out hgW f2
          replace f3 := past_cells HBW1.out hgW f3
          replace f4 := past_cells HBW1.out hgW f4
          have HTV := hid (HTW.out.past HBW1.out)
          have HTV2 := hid (HTW2.out.past HBW1.out)
          have HBV := hid (HBW.out.trans (HBW1.out.mono (Nat.le_of_lt hH)))
          clear b0 b2 b3
          have kA := fun (W : World) => run_string_add_sum (P := Tryd.prog) W ⟨y.toArray⟩ S (by rw [size_mk]; omega)
          have kB := fun (W : World) => run_string_add_sum (P := Tryd.prog) W (⟨y.toArray⟩ ++ S) ⟨z.toArray⟩ (by simp only [ByteArray.size_append, size_mk]; omega)
          clear hSs
          go_region_held3 (fun w' => w'.cell? ⟨w.heap.size, 4, none⟩ = some (.slice (some ⟨g, o, none⟩) 2 d) ∧ w'.cell? ⟨g, o, none⟩ = some (.int .i64 t.kind) ∧ w'.cell? ⟨g, o + 1, none⟩ = some (.int .i64 t.num) ∧ w'.cell? ⟨g, o + 2, none⟩ = some (.int .i64 t.row) ∧ w'.cell? ⟨g, o + 3, none⟩ = some os' ∧ w'.cell? ⟨g, o + 4, none⟩ = some az' ∧ w'.cell? ⟨g, o + 5, none⟩ = some (.int .i64 u.kind) ∧ w'.cell? ⟨g, o + 5 + 1, none⟩ = some (.int .i64 u.num) ∧ w'.cell? ⟨g, o + 5 + 2, none⟩ = some (.int .i64 u.row) ∧ w'.cell? ⟨g, o + 5 + 3, none⟩ = some os2 ∧ w'.cell? ⟨g, o + 5 + 4, none⟩ = some az2) (go_keep)
            ((first
              | (go_at_call_of 13 (Value.int .i64 1); refine (HIN.out _ os' az' (by exact HTV.out.at rfl)).mono ?_; rintro en w1 ⟨rfl, HB1⟩
                 have k4 := past_cells HB1.out hHV b4
                 have k5 := past_cells HB1.out hgV e0
                 have k6 := past_cells HB1.out hgV e1
                 have k7 := past_cells HB1.out hgV e2
                 have k8 := past_cells HB1.out hgV e3
                 have k9 := past_cells HB1.out hgV e4
                 have l5 := past_cells HB1.out hgV f0
                 have l6 := past_cells HB1.out hgV f1
                 have l7 := past_cells HB1.out hgV f2
                 have l8 := past_cells HB1.out hgV f3
                 have l9 := past_cells HB1.out hgV f4
                 have hH1 : w.heap.size < w1.heap.size := Nat.lt_of_lt_of_le hHV HB1.out.size
                 have hg1 : g < w1.heap.size := Nat.lt_of_lt_of_le hgV HB1.out.size)
              | (go_at_call_of 13 (Value.int .i64 0); refine (HIN2.out _ os2 az2 (by exact IsT.at (IsT.past (HTV2.out.at (by rfl)) HB1.out) (by rfl))).mono ?_; rintro en w2 ⟨rfl, HB2⟩
                 have m4 := past_cells HB2.out hH1 k4
                 have m5 := past_cells HB2.out hg1 k5
                 have m6 := past_cells HB2.out hg1 k6
                 have m7 := past_cells HB2.out hg1 k7
                 have m8 := past_cells HB2.out hg1 k8
                 have m9 := past_cells HB2.out hg1 k9
                 have n5 := past_cells HB2.out hg1 l5
                 have n6 := past_cells HB2.out hg1 l6
                 have n7 := past_cells HB2.out hg1 l7
                 have n8 := past_cells HB2.out hg1 l8
                 have n9 := past_cells HB2.out hg1 l9)))
          all_goals
            go_wp2_with fail
            go_ret
            refine str_fin (by rw [HX.out, ← HSL.out]; simp [ByteArray.data_append]) ?_
            refine Below.trans ?_ (HB2.out.mono (Nat.le_of_lt hH1))
            repeat (with_reducible (apply Below.drew))
            refine Below.trans ?_ (HB1.out.mono (Nat.le_of_lt hHV))
            repeat (with_reducible (first | exact HBV.out | apply Below.drew))

theorem text_small {t : Ty.P} (h : t.ok) (hp : t.parts ≤ 300) : t.text.length ≤ 400000000 := by
  have := t.text_len h
  omega
theorem show_any : ∀ (t : Ty.P), t.ok → t.parts ≤ 300 → ShowOK t := by
  intro t
  induction t with
  | var n => intro h _; exact show_var n h.1 h.2
  | int => intro _ _; exact show_plain _ (.inl rfl)
  | bool => intro _ _; exact show_plain _ (.inr (.inl rfl))
  | unit => intro _ _; exact show_plain _ (.inr (.inr rfl))
  | list a ih =>
    intro h hp
    have hp2 : a.parts ≤ 300 := by simp only [Ty.P.parts] at hp; omega
    exact show_list a (ih h hp2) (text_small h hp2)
  | pair a b iha ihb =>
    intro h hp
    have hp1 : a.parts ≤ 300 := by simp only [Ty.P.parts] at hp; omega
    have hp2 : b.parts ≤ 300 := by simp only [Ty.P.parts] at hp; omega
    exact show_pair a b (iha h.1 hp1) (ihb h.2 hp2) (text_small h.1 hp1) (text_small h.2 hp2)
  | fn a b o r iha ihb =>
    intro h hp
    obtain ⟨h1, h2, h3, h4, h5⟩ := h
    have hp0 : o.length ≤ 300 := by simp only [Ty.P.parts] at hp; omega
    have hp1 : a.parts ≤ 300 := by simp only [Ty.P.parts] at hp; omega
    have hp2 : b.parts ≤ 300 := by simp only [Ty.P.parts] at hp; omega
    exact show_fn a b o r (iha h1 hp1) (ihb h2 hp2) (text_small h1 hp1) (text_small h2 hp2) h4 hp0 h3
end Go.Proofs.YtkpfadapgjijgabDoor
