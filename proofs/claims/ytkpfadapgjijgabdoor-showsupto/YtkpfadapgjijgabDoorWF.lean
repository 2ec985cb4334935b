/-
  What the program writes of a type: lists, pairs, arrows; then Show.
-/
import Derived.Test.YtkpfadapgjijgabDoorWE
namespace Go.Proofs.YtkpfadapgjijgabDoor
open Go.RowKit

theorem write_0 {t : Ty.P} (h : BareOK t) : WriteOK t 0 (Ty.br t 0 t.text) := write_any t h 0 (by simp)
theorem write_1 {t : Ty.P} (h : BareOK t) : WriteOK t 1 (Ty.br t 1 t.text) := write_any t h 1 (by simp)
theorem write_2 {t : Ty.P} (h : BareOK t) : WriteOK t 2 (Ty.br t 2 t.text) := write_any t h 2 (by simp)

set_option maxRecDepth 100000 in
set_option maxHeartbeats 8000000 in
theorem bare_list (t : Ty.P) (hS : BareOK t) : BareOK (.list t) := by
  intro w0 w B b l os az h0 hB hn hT hI hb hl
  have hbH : w.heap.size ≠ b := by have := bld_lt hb; omega
  obtain ⟨⟨a, c, rfl⟩, g, o, d, os', az', rfl, hd, hE, hT1⟩ := hI
  have HX : Hid ((Ty.P.list t).text = Ty.br t 2 t.text ++ Ty.tList) := rfl
  have htl : Ty.tList.length = 5 := rfl
  rw [HX.out] at hl ⊢
  rw [List.length_append, htl] at hl
  have HS := hid (fun (w : World) (l : List UInt8) (h1 : B ≤ w.heap.size) (h2 : Below w0.heap.size w0 w) (h3 : Lib.IsBuilderF 33 5 B b (Lib.byteCells l) w) (h4 : l.length + (Ty.br t 2 t.text).length ≤ 900000000) => write_2 hS w0 w B b l os' az' h0 h1 h2 hT hT1 h3 h4)
  have HW0 := hid (Wr.start (w0 := w0) (w := w) #[.int .i64 4, .int .i64 0, .int .i64 0, .slice a 0 c, .slice (some ⟨g, o, none⟩) 1 d] hb hB hn)
  have hgw : g < w.heap.size := Nat.lt_of_lt_of_le hE.lt hn.size
  have hgn : ¬ g = w.heap.size := by omega
  obtain ⟨e0, e1, e2, e3, e4⟩ := hE.past hn
  clear hS hn hT hT1 hb hE
  simp only [Ty.P.kind, Ty.P.num, Ty.P.row]
  generalize Ty.br t 2 t.text = x at HS HX hl ⊢
  go_enter Tryd.func16, Tryd.ntmps16
  go_wp2_with fail
  refine (HS.out _ l HW0.out.sz HW0.out.new HW0.out.bld (by omega)).mono ?_
  rintro e w1 ⟨rfl, HB1, HB2, HB3⟩
  have HW1 := hid (HW0.out.wrote hbH h0 HB1.out HB2.out HB3.out)
  go_wp2_with fail
  refine (say_any HW1.out hbH h0 Ty.tList (by rw [htl, List.length_append]; omega)).mono ?_
  rintro e w2 ⟨⟨v2, rfl⟩, HW2⟩
  go_wp2_with fail
  go_end0
  exact HW2.out.fin (by simp)

set_option maxRecDepth 100000 in
set_option maxHeartbeats 8000000 in
theorem bare_pair (t u : Ty.P) (hS : BareOK t) (hU : BareOK u) : BareOK (.pair t u) := by
  intro w0 w B b l os az h0 hB hn hT hI hb hl
  have hbH : w.heap.size ≠ b := by have := bld_lt hb; omega
  obtain ⟨⟨a, c, rfl⟩, g, o, d, os', az', os2, az2, rfl, hd, hE, hT1, hF, hT2⟩ := hI
  have HX : Hid ((Ty.P.pair t u).text = Ty.br t 2 t.text ++ Ty.tStar ++ Ty.br u 1 u.text) := rfl
  have htl : Ty.tStar.length = 3 := rfl
  rw [HX.out] at hl ⊢
  rw [List.length_append, List.length_append, htl] at hl
  have HS := hid (fun (w : World) (l : List UInt8) (h1 : B ≤ w.heap.size) (h2 : Below w0.heap.size w0 w) (h3 : Lib.IsBuilderF 33 5 B b (Lib.byteCells l) w) (h4 : l.length + (Ty.br t 2 t.text).length ≤ 900000000) => write_2 hS w0 w B b l os' az' h0 h1 h2 hT hT1 h3 h4)
  have HU := hid (fun (w : World) (l : List UInt8) (h1 : B ≤ w.heap.size) (h2 : Below w0.heap.size w0 w) (h3 : Lib.IsBuilderF 33 5 B b (Lib.byteCells l) w) (h4 : l.length + (Ty.br u 1 u.text).length ≤ 900000000) => write_1 hU w0 w B b l os2 az2 h0 h1 h2 hT hT2 h3 h4)
  have HW0 := hid (Wr.start (w0 := w0) (w := w) #[.int .i64 5, .int .i64 0, .int .i64 0, .slice a 0 c, .slice (some ⟨g, o, none⟩) 2 d] hb hB hn)
  have hg0 := hE.lt
  have hgw : g < w.heap.size := Nat.lt_of_lt_of_le hg0 hn.size
  have hgn : ¬ g = w.heap.size := by omega
  obtain ⟨e0, e1, e2, e3, e4⟩ := hE.past hn
  have HF := hid hF
  clear hS hU hn hT hT1 hT2 hb hE hF
  simp only [Ty.P.kind, Ty.P.num, Ty.P.row]
  generalize Ty.br t 2 t.text = x at HS HX hl ⊢
  generalize Ty.br u 1 u.text = y at HU HX hl ⊢
  go_enter Tryd.func16, Tryd.ntmps16
  go_wp2_with fail
  refine (HS.out _ l HW0.out.sz HW0.out.new HW0.out.bld (by omega)).mono ?_
  rintro e w1 ⟨rfl, HB1, HB2, HB3⟩
  have HW1 := hid (HW0.out.wrote hbH h0 HB1.out HB2.out HB3.out)
  go_wp2_with fail
  refine (say_any HW1.out hbH h0 Ty.tStar (by rw [htl, List.length_append]; omega)).mono ?_
  rintro e w2 ⟨⟨v2, rfl⟩, HW2⟩
  have b4 := HW2.out.cell 4 _ rfl
  obtain ⟨f0, f1, f2, f3, f4⟩ := El.past HF.out HW2.out.new
  go_wp2_with fail
  refine (HU.out _ _ HW2.out.sz HW2.out.new HW2.out.bld (by simp only [List.length_append, htl]; omega)).mono ?_
  rintro e w3 ⟨rfl, HC1, HC2, HC3⟩
  have HW3 := hid (HW2.out.wrote hbH h0 HC1.out HC2.out HC3.out)
  go_wp2_with fail
  go_end0
  exact HW3.out.fin (by simp)

set_option maxRecDepth 100000 in
set_option maxHeartbeats 8000000 in
theorem bare_fn (t u : Ty.P) (ops : List (List UInt8)) (r : Nat) (hS : BareOK t) (hU : BareOK u) (hx : ∀ x ∈ ops, x.length ≤ 1048576) (hol : ops.length ≤ 300) (hr : r ≤ 1000000000) : BareOK (.fn t u ops r) := by
  intro w0 w B b l os az h0 hB hn hT hI hb hl
  have hbH : w.heap.size ≠ b := by have := bld_lt hb; omega
  obtain ⟨hO, g, o, d, os', az', os2, az2, rfl, hd, hE, hT1, hF, hT2⟩ := hI
  obtain ⟨a, c, rfl, _⟩ := id hO
  have HX : Hid ((Ty.P.fn t u ops r).text = Ty.br t 1 t.text ++ Ty.arrowT ops r ++ Ty.br u 0 u.text) := rfl
  rw [HX.out] at hl ⊢
  rw [List.length_append, List.length_append] at hl
  have HS := hid (fun (w : World) (l : List UInt8) (h1 : B ≤ w.heap.size) (h2 : Below w0.heap.size w0 w) (h3 : Lib.IsBuilderF 33 5 B b (Lib.byteCells l) w) (h4 : l.length + (Ty.br t 1 t.text).length ≤ 900000000) => write_1 hS w0 w B b l os' az' h0 h1 h2 hT hT1 h3 h4)
  have HU := hid (fun (w : World) (l : List UInt8) (h1 : B ≤ w.heap.size) (h2 : Below w0.heap.size w0 w) (h3 : Lib.IsBuilderF 33 5 B b (Lib.byteCells l) w) (h4 : l.length + (Ty.br u 0 u.text).length ≤ 900000000) => write_0 hU w0 w B b l os2 az2 h0 h1 h2 hT hT2 h3 h4)
  have HA := hid (fun (w2 : World) (hb : Below w0.heap.size w0 w2) => arrowW_any 6 0 r a c ops (.slice (some ⟨g, o, none⟩) 2 d) w2 hr (hO.carry hb.block) hx hol (hT.past hb))
  have HW0 := hid (Wr.start (w0 := w0) (w := w) #[.int .i64 6, .int .i64 0, .int .i64 r, .slice a ops.length c, .slice (some ⟨g, o, none⟩) 2 d] hb hB hn)
  have hg0 := hE.lt
  have hgw : g < w.heap.size := Nat.lt_of_lt_of_le hg0 hn.size
  have hgn : ¬ g = w.heap.size := by omega
  obtain ⟨e0, e1, e2, e3, e4⟩ := hE.past hn
  have HF := hid hF
  clear hS hU hn hT hT1 hT2 hb hE hF hO hx
  simp only [Ty.P.kind, Ty.P.num, Ty.P.row]
  generalize Ty.br t 1 t.text = x at HS HX hl ⊢
  generalize Ty.br u 0 u.text = y at HU HX hl ⊢
  generalize Ty.arrowT ops r = z at HA HX hl ⊢
  generalize ops.length = lo at HA HW0 hol ⊢
  go_enter Tryd.func16, Tryd.ntmps16
  go_wp2_with fail
  refine (HS.out _ l HW0.out.sz HW0.out.new HW0.out.bld (by omega)).mono ?_
  rintro e w1 ⟨rfl, HB1, HB2, HB3⟩
  have HW1 := hid (HW0.out.wrote hbH h0 HB1.out HB2.out HB3.out)
  have b0 := HW1.out.cell 0 _ rfl
  have b1 := HW1.out.cell 1 _ rfl
  have b2 := HW1.out.cell 2 _ rfl
  have b3 := HW1.out.cell 3 _ rfl
  have b4 := HW1.out.cell 4 _ rfl
  go_wp2_with fail
  refine (HA.out _ HW1.out.new).mono ?_
  rintro e w2 ⟨rfl, HBA⟩
  have HW2 := hid (HW1.out.past HBA.out)
  go_wp2_with fail
  refine (say_any HW2.out hbH h0 z (by rw [List.length_append]; omega)).mono ?_
  rintro e w3 ⟨⟨v3, rfl⟩, HW3⟩
  have c4 := HW3.out.cell 4 _ rfl
  obtain ⟨f0, f1, f2, f3, f4⟩ := El.past HF.out HW3.out.new
  go_wp2_with fail
  refine (HU.out _ _ HW3.out.sz HW3.out.new HW3.out.bld (by simp only [List.length_append]; omega)).mono ?_
  rintro e w4 ⟨rfl, HC1, HC2, HC3⟩
  have HW4 := hid (HW3.out.wrote hbH h0 HC1.out HC2.out HC3.out)
  go_wp2_with fail
  go_end0
  exact HW4.out.fin (by simp)

theorem bare_any : ∀ (t : Ty.P), t.ok → t.parts ≤ 300 → BareOK t := by
  intro t
  induction t with
  | var n => intro h _; exact bare_var n h.1 h.2
  | int => intro _ _; exact bare_plain _ (.inl rfl)
  | bool => intro _ _; exact bare_plain _ (.inr (.inl rfl))
  | unit => intro _ _; exact bare_plain _ (.inr (.inr rfl))
  | list a ih =>
    intro h hp
    exact bare_list a (ih h (by simp only [Ty.P.parts] at hp; omega))
  | pair a b iha ihb =>
    intro h hp
    exact bare_pair a b (iha h.1 (by simp only [Ty.P.parts] at hp; omega)) (ihb h.2 (by simp only [Ty.P.parts] at hp; omega))
  | fn a b o r iha ihb =>
    intro h hp
    obtain ⟨h1, h2, h3, h4, h5⟩ := h
    exact bare_fn a b o r (iha h1 (by simp only [Ty.P.parts] at hp; omega)) (ihb h2 (by simp only [Ty.P.parts] at hp; omega)) (fun x hx => (h4 x hx).2) (by simp only [Ty.P.parts] at hp; omega) h3
end Go.Proofs.YtkpfadapgjijgabDoor
