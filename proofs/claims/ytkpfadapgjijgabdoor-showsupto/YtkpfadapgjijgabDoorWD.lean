/-
  What the program writes of a type: write, by what writeBare writes.
-/
import Derived.Test.YtkpfadapgjijgabDoorWC
namespace Go.Proofs.YtkpfadapgjijgabDoor
open Go.RowKit

set_option maxRecDepth 100000 in
set_option maxHeartbeats 8000000 in
theorem write_any (t : Ty.P) (hS : BareOK t) (least : Nat) (hle : least = 0 ∨ least = 1 ∨ least = 2) : WriteOK t least (Ty.br t least t.text) := by
  intro w0 w B b l os az h0 hB hn hT hI hb hl
  have hbH : w.heap.size ≠ b := by have := bld_lt hb; omega
  have HBR : Hid ((t.level < least → Ty.br t least t.text = 40 :: t.text ++ [41]) ∧ (¬ t.level < least → Ty.br t least t.text = t.text)) := by
    unfold Ty.br
    exact ⟨fun h => by rw [if_pos h], fun h => by rw [if_neg h]⟩
  have HLV := hid (fun w => level_any t w)
  have HS := hid (fun (w : World) (l : List UInt8) (h1 : B ≤ w.heap.size) (h2 : Below w0.heap.size w0 w) (h3 : Lib.IsBuilderF 33 5 B b (Lib.byteCells l) w) (h4 : l.length + t.text.length ≤ 900000000) => hS w0 w B b l os az h0 h1 h2 hT hI h3 h4)
  have HW0 := hid (Wr.start (w0 := w0) (w := w) #[.int .i64 t.kind, .int .i64 t.num, .int .i64 t.row, os, az] hb hB hn)
  have hlv : t.level = 0 ∨ t.level = 1 ∨ t.level = 2 ∨ t.level = 3 := by cases t <;> simp [Ty.P.level]
  obtain ⟨a, c, rfl, _⟩ := hI.opsV
  obtain ⟨ba, d, rfl, _⟩ := hI.els
  clear hS hn hT hI hb
  generalize t.text = x at HBR HS hl ⊢
  generalize Ty.br t least x = y at HBR hl ⊢
  generalize t.level = lv at HBR HLV hlv
  generalize (t.kind : Int) = kk at HLV HS HW0 ⊢
  generalize (t.num : Int) = nn at HS HW0 ⊢
  generalize (t.row : Int) = rr at HS HW0 ⊢
  generalize t.ops.length = lo at HS HW0 ⊢
  generalize t.kids.length = la at HS HW0 ⊢
  rcases hle with rfl | rfl | rfl
  all_goals rcases hlv with rfl | rfl | rfl | rfl
  all_goals
    go_enter Tryd.func9, Tryd.ntmps9
    go_wp2_with fail
    refine (HLV.out _).mono ?_
    rintro e w' ⟨rfl, rfl⟩
    first
      | (have hy := HBR.out.2 (by decide)
         subst hy
         go_wp2_with fail
         refine (HS.out _ l HW0.out.sz HW0.out.new HW0.out.bld hl).mono ?_
         rintro e w1 ⟨rfl, HB1, HB2, HB3⟩
         have HW1 := hid (HW0.out.wrote hbH h0 HB1.out HB2.out HB3.out)
         go_wp2_with fail
         go_end0
         exact HW1.out.fin rfl)
      | (have hy := HBR.out.1 (by decide)
         have hyl : x.length + 2 = y.length := by rw [hy]; simp
         go_wp2_with fail
         refine (say_any HW0.out hbH h0 [40] (by simp; omega)).mono ?_
         rintro e w1 ⟨⟨v1, rfl⟩, HW1⟩
         have b0 := HW1.out.cell 0 _ rfl
         have b1 := HW1.out.cell 1 _ rfl
         have b2 := HW1.out.cell 2 _ rfl
         have b3 := HW1.out.cell 3 _ rfl
         have b4 := HW1.out.cell 4 _ rfl
         go_wp2_with fail
         refine (HS.out _ _ HW1.out.sz HW1.out.new HW1.out.bld (by simp; omega)).mono ?_
         rintro e w2 ⟨rfl, HB1, HB2, HB3⟩
         have HW2 := hid (HW1.out.wrote hbH h0 HB1.out HB2.out HB3.out)
         go_wp2_with fail
         refine (say_any HW2.out hbH h0 [41] (by simp; omega)).mono ?_
         rintro e w3 ⟨⟨v3, rfl⟩, HW3⟩
         go_wp2_with fail
         go_end0
         exact HW3.out.fin (by rw [hy]; simp))
end Go.Proofs.YtkpfadapgjijgabDoor
