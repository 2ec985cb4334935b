/-
  What the document writes of a type: in; Show of all but arrows.
-/
import Derived.Test.YtkpfadapgjijgabDoorSA
import Derived.Deep.RegionHeld3
import Derived.Deep.RegionWith
namespace Go.Proofs.YtkpfadapgjijgabDoor
open Go.RowKit

def tyV (t : Ty.P) (os az : Value) : Value := .agg #[.int .i64 t.kind, .int .i64 t.num, .int .i64 t.row, os, az]
def StrRes (w : World) (x : List UInt8) (en : Ending) (w' : World) : Prop := en = .returned (.string ⟨x.toArray⟩) ∧ Hid (Below w.heap.size w w')
def ShowOK (t : Ty.P) : Prop := ∀ (w : World) (os az : Value), IsT w t os az →
  Calls Tryd.prog 6 #[.agg #[.int .i64 t.kind, .int .i64 t.num, .int .i64 t.row, os, az]] w fun en w' => StrRes w t.text en w'

theorem str_fin {w w' : World} {a : ByteArray} {x : List UInt8} (h : a.data.toList = x) (hb : Below w.heap.size w w') : StrRes w x (.returned (.string a)) w' :=
  ⟨ret_str (by simpa using h), hb⟩

set_option maxRecDepth 100000 in
set_option maxHeartbeats 4000000 in
theorem in_any (t : Ty.P) (hS : ShowOK t) (hlen : t.text.length ≤ 400000000) (least : Nat) (hle : least = 0 ∨ least = 1 ∨ least = 2) (w : World) (os az : Value) (h : IsT w t os az) :
    Calls Tryd.prog 13 #[.agg #[.int .i64 t.kind, .int .i64 t.num, .int .i64 t.row, os, az], .int .i64 least] w fun en w' => StrRes w (Ty.br t least t.text) en w' := by
  have HS := hid hS
  have H := hid h
  have HBR : Hid ((t.level < least → Ty.br t least t.text = 40 :: t.text ++ [41]) ∧ (¬ t.level < least → Ty.br t least t.text = t.text)) := by
    unfold Ty.br
    exact ⟨fun h => by rw [if_pos h], fun h => by rw [if_neg h]⟩
  have HO := hid (fun o => h.alloc o)
  clear hS h
  obtain ⟨lv, hlv⟩ : ∃ lv, lv = t.level := ⟨_, rfl⟩
  rw [← hlv] at HBR
  have hk : (t.kind = 6 ∧ lv = 0) ∨ (t.kind = 5 ∧ lv = 1) ∨ (t.kind = 4 ∧ lv = 2) ∨ (t.kind ≠ 6 ∧ t.kind ≠ 5 ∧ t.kind ≠ 4 ∧ lv = 3) := by
    rw [hlv]; cases t <;> simp [Ty.P.kind, Ty.P.level]
  clear hlv
  have HSW := hid (fun (w : World) (os az : Value) (h : IsT w t os az) => HS.out w os az h)
  generalize t.text = x at HBR HSW hlen ⊢
  generalize Ty.br t least x = y at HBR ⊢
  generalize ht1 : t.kind = k at HSW hk ⊢
  generalize ht2 : t.num = n at HSW ⊢
  generalize ht3 : t.row = r at HSW ⊢
  clear ht1 ht2 ht3 HS
  rcases hle with rfl | rfl | rfl
  all_goals rcases hk with ⟨rfl, rfl⟩ | ⟨rfl, rfl⟩ | ⟨rfl, rfl⟩ | ⟨k6, k5, k4, rfl⟩
  all_goals
    go_enter Tryd.func13, Tryd.ntmps13
    go_wp2_with fail
    refine (HSW.out _ os az (HO.out _)).mono ?_
    rintro en w2 ⟨rfl, HB⟩
    go_wp2_with fail
    go_ret
    refine str_fin ?_ ((Below.alloc (Below.refl w.heap.size w) (Nat.le_refl _) _).trans (HB.out.mono (by simp)))
    first
      | (rw [HBR.out.1 (by decide)]; simp [ByteArray.data_append])
      | (rw [HBR.out.2 (by decide)])

theorem conv1g (V : World) (g : Nat) (ch : UInt8) (x : Int) (hc : V.cell? ⟨g, 0, none⟩ = some (.int .u8 x)) (h : x = ch.toNat) :
    (convert 31 9 (.slice (some ⟨g, 0, none⟩) 1 1)).run Tryd.prog V = .ok (.string ⟨[ch].toArray⟩) V := by
  subst h
  exact run_convert_bytes_back (P := Tryd.prog) V 31 9 5 ⟨g, 0, none⟩ 1 [ch] Tryd.underlying31 Tryd.underlying5 Tryd.underlying9 (fun j hj => by
    have : j = 0 := by simpa using hj
    subst this
    simpa [Addr.add] using hc)
theorem var_byte (n : Nat) (h1 : 1 ≤ n) (h2 : n ≤ 26) : ((97 : Int) + (n : Int) - 1) = ((96 + n).toUInt8).toNat := by
  have : (96 + n).toUInt8.toNat = 96 + n := by simp [Nat.toUInt8]; omega
  rw [this]; omega

set_option maxRecDepth 100000 in
set_option maxHeartbeats 4000000 in
theorem show_var (n : Nat) (h1 : 1 ≤ n) (h2 : n ≤ 1000000000) : ShowOK (.var n) := by
  rintro w os az ⟨⟨a, c, rfl⟩, ⟨b, d, rfl⟩⟩
  simp only [Ty.P.kind, Ty.P.num, Ty.P.row]
  have hab : ((0 : Int) != argsN 0) = false := by simp [argsN]
  by_cases h26 : n ≤ 26
  · have kc := fun (q : Nat) => conv1g (((w.alloc (.cells #[.int .i64 0, .int .i64 n, .int .i64 0, .slice a 0 c, .slice b 0 d] 25)).drewN q).alloc (.cells #[.int .u8 (97 + (n : Int) - 1)] 5)) (w.heap.size + 1) _ _ (by simp [go_sem]) (var_byte n h1 h26)
    have HT : Hid ((Ty.P.var n).text = [(96 + n).toUInt8]) := by simp [Hid, Ty.P.text, Ty.varT, h26]
    generalize (96 + n).toUInt8 = ch at kc HT
    go_enter Tryd.func6, Tryd.ntmps6
    go_wp2_with fail
    go_quiet ((go_at_call 11; exact Calls.quiet_of_same (args_any _ _)))
    go_wp2_with fail
    go_ret
    exact str_fin (by rw [HT.out]) (by repeat (with_reducible (first | exact Below.refl _ _ | apply Below.drew | apply below_dn | refine Below.alloc ?_ (by simp) _)))
  · have HT : Hid ((Ty.P.var n).text = 97 :: Ty.dig n) := by simp [Hid, Ty.P.text, Ty.varT, h26]
    have hdl := Ty.dig_small h2
    generalize hdg : Ty.dig n = dg at hdl HT
    have HD := hid hdg
    clear hdg
    go_enter Tryd.func6, Tryd.ntmps6
    go_wp2_with fail
    go_quiet ((go_at_call 11; exact Calls.quiet_of_same (args_any _ _)))
    go_wp2_with fail
    refine (digits_any n _ h2).mono ?_
    rintro en w2 ⟨rfl, hb⟩
    have HB := hid hb
    clear hb
    rw [HD.out]
    go_wp2_with fail
    go_ret
    exact str_fin (by rw [HT.out]; simp [ByteArray.data_append]) (Below.trans (by repeat (with_reducible (first | exact Below.refl _ _ | apply Below.drew | apply below_dn | refine Below.alloc ?_ (by simp) _))) (HB.out.mono (by simp)))

set_option maxRecDepth 100000 in
set_option maxHeartbeats 4000000 in
theorem show_plain (t : Ty.P) (ht : t = .int ∨ t = .bool ∨ t = .unit) : ShowOK t := by
  rcases ht with rfl | rfl | rfl
  all_goals
    rintro w os az ⟨⟨a, c, rfl⟩, ⟨b, d, rfl⟩⟩
    simp only [Ty.P.kind, Ty.P.num, Ty.P.row]
    have hab : ((0 : Int) != argsN 1) = false := by simp [argsN]
    have hab2 : ((0 : Int) != argsN 2) = false := by simp [argsN]
    have hab3 : ((0 : Int) != argsN 3) = false := by simp [argsN]
    go_enter Tryd.func6, Tryd.ntmps6
    go_wp2_with fail
    go_quiet ((go_at_call 11; exact Calls.quiet_of_same (args_any _ _)))
    go_wp2_with fail
    go_ret
    exact str_fin (by simp [Ty.P.text, Ty.tInt, Ty.tBool, Ty.tUnit]) (by repeat (with_reducible (first | exact Below.refl _ _ | apply Below.drew | apply below_dn | refine Below.alloc ?_ (by simp) _)))
end Go.Proofs.YtkpfadapgjijgabDoor
