/-
  What the program writes of a type: writeBare, kind by kind; then Show.
-/
import Derived.Test.YtkpfadapgjijgabDoorWD
namespace Go.Proofs.YtkpfadapgjijgabDoor
open Go.RowKit

set_option maxRecDepth 100000 in
set_option maxHeartbeats 8000000 in
theorem bare_var (n : Nat) (h1 : 1 ≤ n) (h2 : n ≤ 1000000000) : BareOK (.var n) := by
  intro w0 w B b l os az h0 hB hn hT hI hb hl
  have hbH : w.heap.size ≠ b := by have := bld_lt hb; omega
  obtain ⟨⟨a, c, rfl⟩, ba, d, rfl⟩ := hI
  have HN := hid (fun (w2 : World) (hb : Below w0.heap.size w0 w2) => nameOf_any n h1 h2 w2 (hT.past hb))
  have HW0 := hid (Wr.start (w0 := w0) (w := w) #[.int .i64 0, .int .i64 n, .int .i64 0, .slice a 0 c, .slice ba 0 d] hb hB hn)
  have HX : Hid ((Ty.P.var n).text = Ty.varT n) := rfl
  rw [HX.out] at hl ⊢
  simp only [Ty.P.kind, Ty.P.num, Ty.P.row]
  clear hn hT hb
  generalize Ty.varT n = x at HN HX hl ⊢
  go_enter Tryd.func16, Tryd.ntmps16
  go_wp2_with fail
  refine (HN.out _ HW0.out.new).mono ?_
  rintro e w1 ⟨rfl, HB1⟩
  have HW1 := hid (HW0.out.past HB1.out)
  go_wp2_with fail
  refine (say_any HW1.out hbH h0 x (by omega)).mono ?_
  rintro e w2 ⟨⟨v2, rfl⟩, HW2⟩
  go_wp2_with fail
  go_end0
  exact HW2.out.fin rfl

set_option maxRecDepth 100000 in
set_option maxHeartbeats 8000000 in
theorem bare_plain (t : Ty.P) (ht : t = .int ∨ t = .bool ∨ t = .unit) : BareOK t := by
  rcases ht with rfl | rfl | rfl
  all_goals
    intro w0 w B b l os az h0 hB hn hT hI hb hl
    have hbH : w.heap.size ≠ b := by have := bld_lt hb; omega
    obtain ⟨⟨a, c, rfl⟩, ba, d, rfl⟩ := hI
    simp only [Ty.P.text] at hl ⊢
    first
      | (have HW0 := hid (Wr.start (w0 := w0) (w := w) #[.int .i64 (Ty.P.int.kind : Nat), .int .i64 (Ty.P.int.num : Nat), .int .i64 (Ty.P.int.row : Nat), .slice a 0 c, .slice ba 0 d] hb hB hn)
         have HZ := hid (say_any HW0.out hbH h0 Ty.tInt (by omega)))
      | (have HW0 := hid (Wr.start (w0 := w0) (w := w) #[.int .i64 (Ty.P.bool.kind : Nat), .int .i64 (Ty.P.bool.num : Nat), .int .i64 (Ty.P.bool.row : Nat), .slice a 0 c, .slice ba 0 d] hb hB hn)
         have HZ := hid (say_any HW0.out hbH h0 Ty.tBool (by omega)))
      | (have HW0 := hid (Wr.start (w0 := w0) (w := w) #[.int .i64 (Ty.P.unit.kind : Nat), .int .i64 (Ty.P.unit.num : Nat), .int .i64 (Ty.P.unit.row : Nat), .slice a 0 c, .slice ba 0 d] hb hB hn)
         have HZ := hid (say_any HW0.out hbH h0 Ty.tUnit (by omega)))
    clear hn hT hb
    simp only [Ty.P.kind, Ty.P.num, Ty.P.row]
    go_enter Tryd.func16, Tryd.ntmps16
    go_wp2_with fail
    refine HZ.out.mono ?_
    rintro e w2 ⟨⟨v2, rfl⟩, HW2⟩
    go_wp2_with fail
    go_end0
    exact HW2.out.fin rfl
end Go.Proofs.YtkpfadapgjijgabDoor
