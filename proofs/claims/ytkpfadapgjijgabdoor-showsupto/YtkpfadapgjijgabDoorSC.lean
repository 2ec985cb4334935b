/-
  What the document writes of a type: lists and pairs.
-/
import Derived.Test.YtkpfadapgjijgabDoorSB
namespace Go.Proofs.YtkpfadapgjijgabDoor
open Go.RowKit

theorem bcell {W w1 : World} (hb : Below W.heap.size W w1) : (∀ b o, b < W.heap.size → w1.cell? ⟨b, o, none⟩ = W.cell? ⟨b, o, none⟩) ∧ (∀ b o, b < W.heap.size → w1.frozen? ⟨b, o, none⟩ = W.frozen? ⟨b, o, none⟩) :=
  ⟨fun b o h => hb.cell (p := ⟨b, o, none⟩) h, fun b o h => hb.frozen (p := ⟨b, o, none⟩) h⟩

/-- Five cells of w are those of a later world. -/
theorem El.past {w w' : World} {g o : Nat} {k n r : Int} {os az : Value} (h : El w g o k n r os az) (hb : Below w.heap.size w w') : El w' g o k n r os az := h.of_heap (hb.block g h.lt)

def InOK (t : Ty.P) (least : Int) (x : List UInt8) : Prop := ∀ (w : World) (os az : Value), IsT w t os az →
  Calls Tryd.prog 13 #[.agg #[.int .i64 t.kind, .int .i64 t.num, .int .i64 t.row, os, az], .int .i64 least] w fun en w' => StrRes w x en w'
theorem in_0 {t : Ty.P} (hS : ShowOK t) (hlen : t.text.length ≤ 400000000) : InOK t 0 (Ty.br t 0 t.text) := fun w os az h => in_any t hS hlen 0 (by simp) w os az h
theorem in_1 {t : Ty.P} (hS : ShowOK t) (hlen : t.text.length ≤ 400000000) : InOK t 1 (Ty.br t 1 t.text) := fun w os az h => in_any t hS hlen 1 (by simp) w os az h
theorem in_2 {t : Ty.P} (hS : ShowOK t) (hlen : t.text.length ≤ 400000000) : InOK t 2 (Ty.br t 2 t.text) := fun w os az h => in_any t hS hlen 2 (by simp) w os az h

/-- What a world's cells say stands in a later one. -/
theorem past_cells {W V w1 : World} (hb : Below V.heap.size V w1) {b off : Nat} {v : Value} (hl : b < W.heap.size) (h : W.cell? ⟨b, off, none⟩ = some v) (hV : V.heap = W.heap := by rfl) : w1.cell? ⟨b, off, none⟩ = some v := by
  rw [hb.cell (p := ⟨b, off, none⟩) (by rw [hV]; exact hl)]
  rw [← h]
  exact World.cell?_of_block (w := W) (w' := V) (a := ⟨b, off, none⟩) (by rw [hV])
theorem IsT.at {w V : World} {t : Ty.P} {os az : Value} (h : IsT w t os az) (hV : V.heap = w.heap) : IsT V t os az := IsT.carry (fun b _ => by rw [hV]) h

set_option maxRecDepth 100000 in
set_option maxHeartbeats 4000000 in
theorem show_list (t : Ty.P) (hS : ShowOK t) (hlen : t.text.length ≤ 400000000) : ShowOK (.list t) := by
  rintro w os az ⟨⟨a, c, rfl⟩, g, o, d, os', az', rfl, hd, hE, hT⟩
  have HS := hid hS
  have hg := hE.lt
  have hgn : ¬ g = w.heap.size := by omega
  have HT := hid hT
  have HO := hid (fun o q => IsT.past hT (below_dn ((Below.refl _ _).alloc (Nat.le_refl _) o) q))
  obtain ⟨e0, e1, e2, e3, e4⟩ := hE
  clear hS hT
  simp only [Ty.P.kind, Ty.P.num, Ty.P.row]
  have hab : ((1 : Int) != argsN 4) = false := by simp [argsN]
  have HX : Hid ((Ty.P.list t).text = Ty.br t 2 t.text ++ Ty.tList) := rfl
  have hbl := Ty.br_len t 2 t.text
  go_enter Tryd.func6, Tryd.ntmps6
  go_wp2_with fail
  go_quiet ((go_at_call 11; exact Calls.quiet_of_same (args_any _ _)))
  go_wp2_with fail
  refine (in_any t HS.out hlen 2 (by simp) _ os' az' (HO.out _ _)).mono ?_
  rintro en w2 ⟨rfl, HB⟩
  generalize Ty.br t 2 t.text = y at hbl HX ⊢
  go_wp2_with fail
  go_ret
  exact str_fin (by rw [HX.out]; simp [ByteArray.data_append, Ty.tList]) (Below.trans (by repeat (with_reducible (first | exact Below.refl _ _ | apply Below.drew | apply below_dn | refine Below.alloc ?_ (by simp) _))) (HB.out.mono (by simp)))

set_option maxRecDepth 100000 in
set_option maxHeartbeats 8000000 in
theorem show_pair (t u : Ty.P) (hS : ShowOK t) (hU : ShowOK u) (hlen : t.text.length ≤ 400000000) (hlen2 : u.text.length ≤ 400000000) : ShowOK (.pair t u) := by
  rintro w os az ⟨⟨a, c, rfl⟩, g, o, d, os', az', os2, az2, rfl, hd, hE, hT, hF, hT2⟩
  have HS := hid hS
  have HU := hid hU
  have hg := hE.lt
  have hgn : ¬ g = w.heap.size := by omega
  have HT := hid hT
  have HT2 := hid hT2
  obtain ⟨e0, e1, e2, e3, e4⟩ := hE
  obtain ⟨f0, f1, f2, f3, f4⟩ := hF
  clear hS hU hT hT2
  simp only [Ty.P.kind, Ty.P.num, Ty.P.row]
  have hab : ((2 : Int) != argsN 5) = false := by simp [argsN]
  have HX : Hid ((Ty.P.pair t u).text = Ty.br t 2 t.text ++ Ty.tStar ++ Ty.br u 1 u.text) := rfl
  have hbl : (Ty.br t 2 t.text).length ≤ 400000002 := by have := Ty.br_len t 2 t.text; omega
  have hbl2 : (Ty.br u 1 u.text).length ≤ 400000002 := by have := Ty.br_len u 1 u.text; omega
  have HIN := hid (in_2 HS.out hlen)
  have HIN2 := hid (in_1 HU.out hlen2)
  generalize Ty.br t 2 t.text = y at hbl HX HIN ⊢
  generalize Ty.br u 1 u.text = z at hbl2 HX HIN2 ⊢
  have hy1 : y.length + 3 ≤ 9223372036854775807 := by omega
  have hy2 : y.length + 3 + z.length ≤ 9223372036854775807 := by omega
  have kA := fun (W : World) => run_string_add_sum (P := Tryd.prog) W ⟨y.toArray⟩ ⟨#[32, 42, 32]⟩ (by simp [ByteArray.size]; omega)
  have kB := fun (W : World) => run_string_add_sum (P := Tryd.prog) W (⟨y.toArray⟩ ++ ⟨#[32, 42, 32]⟩) ⟨z.toArray⟩ (by simp [ByteArray.size]; omega)
  go_enter Tryd.func6, Tryd.ntmps6
  go_wp2_with fail
  go_quiet ((go_at_call 11; exact Calls.quiet_of_same (args_any _ _)))
  go_wp2_with fail
  obtain ⟨W, hW⟩ : ∃ W, W = ((w.alloc (.cells #[.int .i64 5, .int .i64 0, .int .i64 0, .slice a 0 c, .slice (some ⟨g, o, none⟩) 2 d] 25)).drewN nq) := ⟨_, rfl⟩
  rw [← hW]
  have hBW : Below w.heap.size w W := by rw [hW]; exact below_dn ((Below.refl _ _).alloc (Nat.le_refl _) _) nq
  have hH : w.heap.size < W.heap.size := by rw [hW]; simp
  have hgW : g < W.heap.size := by omega
  have b4 : W.cell? ⟨w.heap.size, 4, none⟩ = some (.slice (some ⟨g, o, none⟩) 2 d) := by rw [hW]; simp [go_sem]
  have HTW := hid (HT.out.past hBW)
  have HTW2 := hid (HT2.out.past hBW)
  have HBW := hid hBW
  replace e0 := past_cells hBW hg e0
  replace e1 := past_cells hBW hg e1
  replace e2 := past_cells hBW hg e2
  replace e3 := past_cells hBW hg e3
  replace e4 := past_cells hBW hg e4
  replace f0 := past_cells hBW hg f0
  replace f1 := past_cells hBW hg f1
  replace f2 := past_cells hBW hg f2
  replace f3 := past_cells hBW hg f3
  replace f4 := past_cells hBW hg f4
  clear hW hBW HT HT2
  go_region_held3 (fun w' => w'.cell? ⟨w.heap.size, 4, none⟩ = some (.slice (some ⟨g, o, none⟩) 2 d) ∧
      w'.cell? ⟨g, o, none⟩ = some (.int .i64 t.kind) ∧ w'.cell? ⟨g, o + 1, none⟩ = some (.int .i64 t.num) ∧ w'.cell? ⟨g, o + 2, none⟩ = some (.int .i64 t.row) ∧ w'.cell? ⟨g, o + 3, none⟩ = some os' ∧ w'.cell? ⟨g, o + 4, none⟩ = some az' ∧
      w'.cell? ⟨g, o + 5, none⟩ = some (.int .i64 u.kind) ∧ w'.cell? ⟨g, o + 5 + 1, none⟩ = some (.int .i64 u.num) ∧ w'.cell? ⟨g, o + 5 + 2, none⟩ = some (.int .i64 u.row) ∧ w'.cell? ⟨g, o + 5 + 3, none⟩ = some os2 ∧ w'.cell? ⟨g, o + 5 + 4, none⟩ = some az2) (go_keep)
    ((first
      | (go_at_call_of 13 (Value.int .i64 2); refine (HIN.out _ os' az' (by exact HTW.out.at rfl)).mono ?_; rintro en w1 ⟨rfl, HB1⟩
         have k4 := past_cells HB1.out hH b4
         have k5 := past_cells HB1.out hgW e0
         have k6 := past_cells HB1.out hgW e1
         have k7 := past_cells HB1.out hgW e2
         have k8 := past_cells HB1.out hgW e3
         have k9 := past_cells HB1.out hgW e4
         have l5 := past_cells HB1.out hgW f0
         have l6 := past_cells HB1.out hgW f1
         have l7 := past_cells HB1.out hgW f2
         have l8 := past_cells HB1.out hgW f3
         have l9 := past_cells HB1.out hgW f4
         have hH1 : w.heap.size < w1.heap.size := Nat.lt_of_lt_of_le hH HB1.out.size
         have hg1 : g < w1.heap.size := Nat.lt_of_lt_of_le hgW HB1.out.size)
      | (go_at_call_of 13 (Value.int .i64 1); refine (HIN2.out _ os2 az2 (by exact IsT.at (IsT.past (HTW2.out.at (by rfl)) HB1.out) (by rfl))).mono ?_; rintro en w2 ⟨rfl, HB2⟩
         have m4 := past_cells HB2.out hH1 k4
         have m5 := past_cells HB2.out hg1 k5
         have m6 := past_cells HB2.out hg1 k6
         have m7 := past_cells HB2.out hg1 k7
         have m8 := past_cells HB2.out hg1 k8
         have m9 := past_cells HB2.out hg1 k9
         have n5 := past_cells HB2.out hg1 l5
         have n6 := past_cells HB2.out hg1 l6
         have n7 := past_cells HB2.out hg1 l7
         have n8 := past_cells HB2.out hg1 l8
         have n9 := past_cells HB2.out hg1 l9)))
  all_goals
    go_wp2_with fail
    go_ret
    refine str_fin (by rw [HX.out]; simp [ByteArray.data_append, Ty.tStar]) ?_
    refine Below.trans ?_ (HB2.out.mono (Nat.le_of_lt hH1))
    repeat (with_reducible (apply Below.drew))
    refine Below.trans ?_ (HB1.out.mono (Nat.le_of_lt hH))
    repeat (with_reducible (first | exact HBW.out | apply Below.drew))
end Go.Proofs.YtkpfadapgjijgabDoor
