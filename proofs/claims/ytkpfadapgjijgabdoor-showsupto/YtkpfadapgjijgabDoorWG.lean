/-
  What the program's Show answers, of a proper type.
-/
import Derived.Test.YtkpfadapgjijgabDoorWF
namespace Go.Proofs.YtkpfadapgjijgabDoor
open Go.RowKit

theorem bld_new (w : World) : Lib.IsBuilderF 33 5 w.heap.size w.heap.size (Lib.byteCells []) (w.alloc (.cells #[.pointer none, .slice none 0 0] 33)) :=
  .inl ⟨Nat.le_refl _, .slice none 0 0, heap_alloc_new w _, ⟨rfl, .inl ⟨rfl, rfl⟩⟩, by simp [Value.ownBlock]⟩

set_option maxRecDepth 100000 in
set_option maxHeartbeats 8000000 in
theorem showW_any (t : Ty.P) (ht : t.ok) (hp : t.parts ≤ 300) (w : World) (os az : Value) (h : IsT w t os az) (hT : TabW w) :
    Calls Tryd.prog 5 #[.agg #[.int .i64 t.kind, .int .i64 t.num, .int .i64 t.row, os, az]] w fun en w' => StrRes w t.text en w' := by
  have HP := hid (fun (o : Obj) => properW_any t ht hp (w.alloc o) os az (h.alloc o))
  have htx := text_small ht hp
  have HWR := hid (write_0 (bare_any t ht hp))
  have hbr : Ty.br t 0 t.text = t.text := by simp [Ty.br]
  rw [hbr] at HWR
  have H := hid h
  have HT := hid hT
  obtain ⟨a, c, rfl, _⟩ := h.opsV
  obtain ⟨ba, d, rfl, _⟩ := h.els
  have HWW := hid (fun (w2 : World) (B b : Nat) (l : List UInt8) (h0 : w.heap.size ≤ B) (h1 : B ≤ w2.heap.size) (h2 : Below w.heap.size w w2) (h3 : Lib.IsBuilderF 33 5 B b (Lib.byteCells l) w2) (h4 : l.length + t.text.length ≤ 900000000) => HWR.out w w2 B b l _ _ h0 h1 h2 HT.out H.out h3 h4)
  clear h hT HWR H HT hbr
  generalize t.text = x at HWW htx ⊢
  generalize (t.kind : Int) = kk at HP HWW ⊢
  generalize (t.num : Int) = nn at HP HWW ⊢
  generalize (t.row : Int) = rr at HP HWW ⊢
  generalize t.ops.length = lo at HP HWW ⊢
  generalize t.kids.length = la at HP HWW ⊢
  go_enter Tryd.func5, Tryd.ntmps5
  go_wp2_with fail
  refine (HP.out _).mono ?_
  rintro e w1 ⟨rfl, HB1⟩
  have HB0 := hid ((Below.alloc (Below.refl w.heap.size w) (Nat.le_refl _) (.cells #[.int .i64 kk, .int .i64 nn, .int .i64 rr, .slice a lo c, .slice ba la d] 25)).trans (HB1.out.mono (by simp)))
  have hH : w.heap.size < (w.alloc (.cells #[.int .i64 kk, .int .i64 nn, .int .i64 rr, .slice a lo c, .slice ba la d] 25)).heap.size := by simp
  have b0 := past_cells HB1.out (W := w.alloc (.cells #[.int .i64 kk, .int .i64 nn, .int .i64 rr, .slice a lo c, .slice ba la d] 25)) (off := 0) (v := .int .i64 kk) hH (by simp [go_sem])
  have b1 := past_cells HB1.out (W := w.alloc (.cells #[.int .i64 kk, .int .i64 nn, .int .i64 rr, .slice a lo c, .slice ba la d] 25)) (off := 1) (v := .int .i64 nn) hH (by simp [go_sem])
  have b2 := past_cells HB1.out (W := w.alloc (.cells #[.int .i64 kk, .int .i64 nn, .int .i64 rr, .slice a lo c, .slice ba la d] 25)) (off := 2) (v := .int .i64 rr) hH (by simp [go_sem])
  have b3 := past_cells HB1.out (W := w.alloc (.cells #[.int .i64 kk, .int .i64 nn, .int .i64 rr, .slice a lo c, .slice ba la d] 25)) (off := 3) (v := .slice a lo c) hH (by simp [go_sem])
  have b4 := past_cells HB1.out (W := w.alloc (.cells #[.int .i64 kk, .int .i64 nn, .int .i64 rr, .slice a lo c, .slice ba la d] 25)) (off := 4) (v := .slice ba la d) hH (by simp [go_sem])
  have hzz : w.heap.size < w1.heap.size := Nat.lt_of_lt_of_le (by simp) HB1.out.size
  have hzn : ¬ w.heap.size = w1.heap.size := by omega
  clear hH
  go_wp2_with fail
  have HV : Hid (Below w.heap.size w (w1.alloc (.cells #[.pointer none, .slice none 0 0] 33))) := HB0.out.alloc (Nat.le_of_lt hzz) _
  refine (HWW.out _ w1.heap.size w1.heap.size [] (Nat.le_of_lt hzz) (by simp) HV.out (bld_new w1) (by simpa using Nat.le_trans htx (by omega))).mono ?_
  rintro e w2 ⟨rfl, HC1, HC2, HC3⟩
  have HV2 := hid (HV.out.trans (HC2.out.mono (Nat.le_of_lt hzz)))
  have hz2 : w1.heap.size ≤ w2.heap.size := Nat.le_trans (by simp) HC2.out.size
  go_wp2_with fail
  refine (Tryd.Builder_String_any_k w1.heap.size w1.heap.size x w2 (by simpa using HC1.out) hz2).mono ?_
  rintro e w3 ⟨rfl, _, hb3, _⟩
  have HB3 := hid hb3
  clear hb3
  go_wp2_with fail
  go_ret
  exact str_fin rfl (HV2.out.trans (HB3.out.mono (Nat.le_of_lt hzz)))
end Go.Proofs.YtkpfadapgjijgabDoor
