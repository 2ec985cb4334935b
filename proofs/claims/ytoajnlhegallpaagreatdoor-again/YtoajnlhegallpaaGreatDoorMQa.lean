/-
  Four contracts of the library, laid at this program by their names: strings.Join, strings.CutPrefix, strconv.Itoa.
  The tokens that the program's printer says, of every tree that is well made.
-/
import Derived.Shelf.Strings.Builder1
import Derived.Shelf.Strings.Builder2
import Derived.Shelf.Strings.OnBuilder
import Derived.Shelf.Small.Wraps
import Derived.Shelf.LaysM
import Derived.Shelf.Strconv.Itoa3
import Derived.Test.YtoajnlhegallpaaGreatDoorProg
import Derived.Test.YtoajnlhegallpaaGreatDoorMBa
import Derived.Test.YtoajnlhegallpaaGreatDoorMWr
import Derived.Test.YtoajnlhegallpaaGreatDoorMPp
import Derived.Test.YtoajnlhegallpaaGreatDoorMPf
import Derived.Test.YtoajnlhegallpaaGreatDoorMPh
import Derived.Lib.LaidTab
set_option linter.unusedVariables false
set_option linter.unusedSimpArgs false
set_option maxHeartbeats 1000000
namespace Go.Proofs
open Go.Shelf
def Tryz.lays156_ren : Go.Shelf.Ren := ⟨fun | 156 => 21 | 165 => 50 | 166 => 51 | 169 => 52 | 240 => 91 | 241 => 92 | 276 => 123 | 277 => 124 | n => n, fun | 31 => 46 | 9 => 9 | 3 => 3 | 4 => 4 | 0 => 0 | 20 => 20 | 72 => 76 | 76 => 80 | 70 => 73 | 37 => 74 | 75 => 79 | 127 => 101 | 164 => 113 | 5 => 5 | 80 => 82 | n => n, fun | n => n⟩
theorem Tryz.lays156 : Go.Proofs.Lays.n156 Tryz.prog Tryz.lays156_ren := {
 mixed := by kernel_rfl
 f156 := Tryz.func21.trans (congrArg some (by kernel_rfl))
 f165 := Tryz.func50.trans (congrArg some (by kernel_rfl))
 f166 := Tryz.func51.trans (congrArg some (by kernel_rfl))
 f169 := Tryz.func52.trans (congrArg some (by kernel_rfl))
 f240 := Tryz.func91.trans (congrArg some (by kernel_rfl))
 f241 := Tryz.func92.trans (congrArg some (by kernel_rfl))
 f276 := Tryz.func123.trans (congrArg some (by kernel_rfl))
 f277 := Tryz.func124.trans (congrArg some (by kernel_rfl))
 t0 := Tryz.underlying0
 a0 := Tryz.isAgg0
 z0 := Tryz.sizeOf0
 v0 := Tryz.zeroValue0
 t3 := Tryz.underlying3
 a3 := Tryz.isAgg3
 z3 := Tryz.sizeOf3
 v3 := Tryz.zeroValue3
 t4 := Tryz.underlying4
 a4 := Tryz.isAgg4
 z4 := Tryz.sizeOf4
 v4 := Tryz.zeroValue4
 t9 := Tryz.underlying9
 a9 := Tryz.isAgg9
 z9 := Tryz.sizeOf9
 v9 := Tryz.zeroValue9
 t20 := Tryz.underlying20
 a20 := Tryz.isAgg20
 z20 := Tryz.sizeOf20
 v20 := Tryz.zeroValue20
 t31 := Tryz.underlying46
 a31 := Tryz.isAgg46
 z31 := Tryz.sizeOf46
 v31 := Tryz.zeroValue46
 t37 := Tryz.underlying74
 a37 := Tryz.isAgg74
 z37 := Tryz.sizeOf74
 v37 := Tryz.zeroValue74
 t70 := Tryz.underlying73
 a70 := Tryz.isAgg73
 z70 := Tryz.sizeOf73
 v70 := Tryz.zeroValue73
 t72 := Tryz.underlying76
 a72 := Tryz.isAgg76
 z72 := Tryz.sizeOf76
 v72 := Tryz.zeroValue76
 t75 := Tryz.underlying79
 a75 := Tryz.isAgg79
 z75 := Tryz.sizeOf79
 v75 := Tryz.zeroValue79
 t76 := Tryz.underlying80
 a76 := Tryz.isAgg80
 z76 := Tryz.sizeOf80
 v76 := Tryz.zeroValue80
 t127 := Tryz.underlying101
 a127 := Tryz.isAgg101
 z127 := Tryz.sizeOf101
 v127 := Tryz.zeroValue101
 t164 := Tryz.underlying113
 a164 := Tryz.isAgg113
 z164 := Tryz.sizeOf113
 v164 := Tryz.zeroValue113 }
theorem Tryz.Builder_Extra_156 : Builder.Extra Tryz.prog Tryz.lays156_ren := {
 sizeBuilder := by kernel_rfl
 liesBuilder := by kernel_rfl
 t5 := Tryz.underlying5
 a5 := Tryz.isAgg5
 z5 := Tryz.sizeOf5
 v5 := Tryz.zeroValue5
 infoByte := by kernel_rfl
 cellsByte := by kernel_rfl
 sizeByte := by kernel_rfl
 neB5 := by decide }
open Go.RowKit in
theorem Tryz.strings_Join_none (a : Option Addr) (c : Nat) (sep : ByteArray) (w : World) :
  Calls Tryz.prog 21 #[.slice a 0 c, .string sep] w fun e w' => e = .returned (.string ⟨#[]⟩) ∧ w' = w := Any.strings_Join_none Tryz.lays156 Tryz.Builder_Extra_156 a c sep w
open Go.RowKit in
theorem Tryz.strings_Join (bk o c : Nat) (xs : List ByteArray) (sep : ByteArray) (w : World) (hcells : ∀ (j : Nat) x, xs[j]? = some x → w.cell? ⟨bk, o + j, none⟩ = some (.string x)) (hbk : bk < w.heap.size) (hN : xs.length ≤ 140737488355328) (hcap : xs.length ≤ c) (hlen : (Lib.join (xs.map (·.data.toList)) sep.data.toList).length ≤ 140737488355328) :
  Calls Tryz.prog 21 #[.slice (some ⟨bk, o, none⟩) xs.length c, .string sep] w fun e w' => e = .returned (.string ⟨(Lib.join (xs.map (·.data.toList)) sep.data.toList).toArray⟩) ∧ Below w.heap.size w w' := Any.strings_Join Tryz.lays156 Tryz.Builder_Extra_156 bk o c xs sep w hcells hbk hN hcap hlen
def Tryz.lays103_ren : Go.Shelf.Ren := ⟨fun | 103 => 137 | 210 => 151 | 206 => 158 | n => n, fun | 9 => 9 | 4 => 4 | 24 => 120 | 3 => 3 | n => n, fun | n => n⟩
theorem Tryz.lays103 : Go.Proofs.Lays.n103 Tryz.prog Tryz.lays103_ren := {
 mixed := by kernel_rfl
 f103 := Tryz.func137.trans (congrArg some (by kernel_rfl))
 f206 := Tryz.func158.trans (congrArg some (by kernel_rfl))
 f210 := Tryz.func151.trans (congrArg some (by kernel_rfl))
 t3 := Tryz.underlying3
 a3 := Tryz.isAgg3
 z3 := Tryz.sizeOf3
 v3 := Tryz.zeroValue3
 t4 := Tryz.underlying4
 a4 := Tryz.isAgg4
 z4 := Tryz.sizeOf4
 v4 := Tryz.zeroValue4
 t9 := Tryz.underlying9
 a9 := Tryz.isAgg9
 z9 := Tryz.sizeOf9
 v9 := Tryz.zeroValue9
 t24 := Tryz.underlying120
 a24 := Tryz.isAgg120
 z24 := Tryz.sizeOf120
 v24 := Tryz.zeroValue120 }
open Go.RowKit in
theorem Tryz.strings_CutPrefix (s p : ByteArray) (w : World) :
  Calls Tryz.prog 137 #[.string s, .string p] w fun e w' => e = .returned (.tuple #[.string ⟨(Lib.trimPrefix s.data.toList p.data.toList).toArray⟩, .bool (Lib.hasPrefix s.data.toList p.data.toList)]) ∧ w' = w := Any.strings_CutPrefix Tryz.lays103 s p w
def Tryz.laysM171_ren : Go.Shelf.Ren := ⟨fun | 171 => 138 | 243 => 152 | 246 => 159 | 283 => 162 | 284 => 163 | 285 => 164 | 286 => 165 | 129 => 171 | 317 => 170 | 318 => 172 | 319 => 173 | 320 => 174 | 337 => 179 | 338 => 180 | n => n, fun | 3 => 3 | 9 => 9 | 2 => 2 | 4 => 4 | 171 => 142 | 0 => 0 | 53 => 127 | 37 => 74 | 5 => 5 | 173 => 145 | 212 => 149 | 51 => 150 | 20 => 20 | 213 => 151 | 46 => 124 | 232 => 155 | 233 => 156 | n => n, fun | 17 => 3 | 18 => 4 | 19 => 5 | n => n⟩
theorem Tryz.laysM171 : Go.Proofs.LaysM.n171 Tryz.prog Tryz.laysM171_ren := {
 mixed := by kernel_rfl
 f129 := Tryz.func171.trans (congrArg some (by kernel_rfl))
 f171 := Tryz.func138.trans (congrArg some (by kernel_rfl))
 f243 := Tryz.func152.trans (congrArg some (by kernel_rfl))
 f246 := Tryz.func159.trans (congrArg some (by kernel_rfl))
 f283 := Tryz.func162.trans (congrArg some (by kernel_rfl))
 f284 := Tryz.func163.trans (congrArg some (by kernel_rfl))
 f285 := Tryz.func164.trans (congrArg some (by kernel_rfl))
 f286 := Tryz.func165.trans (congrArg some (by kernel_rfl))
 f317 := Tryz.func170.trans (congrArg some (by kernel_rfl))
 f318 := Tryz.func172.trans (congrArg some (by kernel_rfl))
 f319 := Tryz.func173.trans (congrArg some (by kernel_rfl))
 f320 := Tryz.func174.trans (congrArg some (by kernel_rfl))
 f337 := Tryz.func179.trans (congrArg some (by kernel_rfl))
 f338 := Tryz.func180.trans (congrArg some (by kernel_rfl))
 t0 := Tryz.underlying0
 a0 := Tryz.isAgg0
 z0 := Tryz.sizeOf0
 v0 := Tryz.zeroValue0
 t2 := Tryz.underlying2
 a2 := Tryz.isAgg2
 z2 := Tryz.sizeOf2
 v2 := Tryz.zeroValue2
 t3 := Tryz.underlying3
 a3 := Tryz.isAgg3
 z3 := Tryz.sizeOf3
 v3 := Tryz.zeroValue3
 t4 := Tryz.underlying4
 a4 := Tryz.isAgg4
 z4 := Tryz.sizeOf4
 v4 := Tryz.zeroValue4
 t5 := Tryz.underlying5
 a5 := Tryz.isAgg5
 z5 := Tryz.sizeOf5
 v5 := Tryz.zeroValue5
 t9 := Tryz.underlying9
 a9 := Tryz.isAgg9
 z9 := Tryz.sizeOf9
 v9 := Tryz.zeroValue9
 t20 := Tryz.underlying20
 a20 := Tryz.isAgg20
 z20 := Tryz.sizeOf20
 v20 := Tryz.zeroValue20
 t37 := Tryz.underlying74
 a37 := Tryz.isAgg74
 z37 := Tryz.sizeOf74
 v37 := Tryz.zeroValue74
 t46 := Tryz.underlying124
 a46 := Tryz.isAgg124
 z46 := Tryz.sizeOf124
 v46 := Tryz.zeroValue124
 t51 := Tryz.underlying150
 a51 := Tryz.isAgg150
 z51 := Tryz.sizeOf150
 v51 := Tryz.zeroValue150
 t53 := Tryz.underlying127
 a53 := Tryz.isAgg127
 z53 := Tryz.sizeOf127
 v53 := Tryz.zeroValue127
 t171 := Tryz.underlying142
 a171 := Tryz.isAgg142
 z171 := Tryz.sizeOf142
 v171 := Tryz.zeroValue142
 t173 := Tryz.underlying145
 a173 := Tryz.isAgg145
 z173 := Tryz.sizeOf145
 v173 := Tryz.zeroValue145
 t212 := Tryz.underlying149
 a212 := Tryz.isAgg149
 z212 := Tryz.sizeOf149
 v212 := Tryz.zeroValue149
 t213 := Tryz.underlying151
 a213 := Tryz.isAgg151
 z213 := Tryz.sizeOf151
 t232 := Tryz.underlying155
 a232 := Tryz.isAgg155
 z232 := Tryz.sizeOf155
 v232 := Tryz.zeroValue155
 t233 := Tryz.underlying156
 a233 := Tryz.isAgg156
 z233 := Tryz.sizeOf156
 v233 := Tryz.zeroValue156
 g17 := by kernel_rfl
 g18 := by kernel_rfl
 g19 := by kernel_rfl
 i0 := by kernel_rfl
 i2 := by kernel_rfl
 i3 := by kernel_rfl
 i4 := by kernel_rfl
 i5 := by kernel_rfl
 i9 := by kernel_rfl
 i20 := by kernel_rfl
 i37 := by kernel_rfl
 i46 := by kernel_rfl
 i51 := by kernel_rfl
 i53 := by kernel_rfl
 i171 := by kernel_rfl
 i173 := by kernel_rfl
 i212 := by kernel_rfl
 i232 := by kernel_rfl
 i233 := by kernel_rfl
 m17 := by kernel_rfl
 m18 := by kernel_rfl
 m19 := by kernel_rfl }
open Go.RowKit Go.Sort Go.Lib in
theorem Tryz.strconv_Itoa (n : Int) (h0 : -9223372036854775808 ≤ n) (h1 : n ≤ 9223372036854775807) (w : World) (htab : Lib.TabIs Tryz.prog w "internal/strconv.uint64pow10" .u64 Lib.pow10Tab) :
  Calls Tryz.prog 138 #[.int .i64 n] w fun e w' => e = .returned (.string ⟨(Lib.itoa n).toArray⟩) ∧ ∃ k os, w' = grow (w.drewN k) os := Any.strconv_Itoa Tryz.laysM171 n h0 h1 w htab
end Go.Proofs

namespace Go.Proofs.YtoajnlhegallpaaGreatDoor
open Go.RowKit
open Sy (Tr)

def TabW (w : World) : Prop := Lib.TabIs Tryz.prog w "internal/strconv.uint64pow10" .u64 Lib.pow10Tab
theorem TabW.past {w w' : World} (h : TabW w) (hb : Below w.heap.size w w') : TabW w' := by
 unfold TabW Lib.TabIs World.var? at *
 cases hg : Tryz.prog.globalNamed "internal/strconv.uint64pow10" with
 | none => rw [hg] at h; cases h
 | some g =>
  rw [hg] at h
  simp only [Option.bind_some] at h ⊢
  have hlt : g < w.heap.size := by
   rcases Nat.lt_or_ge g w.heap.size with h1 | h1
   ·exact h1
   ·rw [Array.getElem?_eq_none h1] at h; cases h
  rw [hb.block g hlt]
  exact h

theorem lev_nonneg (k : Int) (x : List UInt8) : 0 ≤ levP k x := by
 unfold levP
 repeat' split
 all_goals decide
theorem inP0 (f : Tr → List (List UInt8)) (t : Tr) : inP f t 0 = f t := if_pos (lev_nonneg _ _)
def Wp : Nat → Tr → Prop
 | 0, _ => False
 | n + 1, t => t.name.length ≤ 1000000 ∧ (
  (t.kids = [] ∧ (t.kind = 4 ∨ t.kind = 5 ∨ t.kind = 6 ∨ t.kind = 23 ∨ t.kind = 15 ∨ t.kind = 24 ∨ t.kind = 25 ∨ t.kind = 26)) ∨
  (t.kids = [] ∧ t.kind = 3 ∧ -9223372036854775807 ≤ t.num ∧ t.num ≤ 9223372036854775807) ∨
  ((t.kind = 7 ∨ t.kind = 13 ∨ t.kind = 14 ∨ t.kind = 19 ∨ t.kind = 27) ∧ ∃ a, t.kids = [a] ∧ (t.kind = 27 ∨ a.kind < 24) ∧ Wp n a) ∨
  ((t.kind = 8 ∨ (t.kind = 9 ∧ t.num ≠ 1) ∨ t.kind = 10 ∨ t.kind = 12 ∨ t.kind = 16 ∨ (t.kind = 18 ∧ (t.name = [43] ∨ t.name = [45] ∨ t.name = [42] ∨ t.name = [60] ∨ t.name = [61, 61])) ∨ t.kind = 28) ∧ ∃ a b, t.kids = [a, b] ∧ (t.kind = 28 ∨ (a.kind < 24 ∧ b.kind < 24)) ∧ Wp n a ∧ Wp n b) ∨
  (t.kind = 9 ∧ t.num = 1 ∧ ∃ f a b, t.kids = [f, b] ∧ f.kind = 7 ∧ f.kids = [a] ∧ Wp n a ∧ Wp n b) ∨
  (t.kind = 11 ∧ ∃ a b c, t.kids = [a, b, c] ∧ Wp n a ∧ Wp n b ∧ Wp n c) ∨
  (t.kind = 17 ∧ ∃ a b c d e, t.kids = [a, b, c, d, e] ∧ c.name.length ≤ 1000000 ∧ d.name.length ≤ 1000000 ∧ Wp n a ∧ Wp n b ∧ Wp n e) ∨
  (t.kind = 20 ∧ t.kids.length ≤ 90000 ∧ ∃ a r e cs, t.kids = a :: r :: cs ∧ r.kind = 21 ∧ r.kids = [e] ∧ Wp n a ∧ Wp n e ∧ ∀ q ∈ cs, q.kind = 22 ∧ ∃ x y z, q.kids = [x, y, z] ∧ Wp n z) ∨
  (t.kind = 29 ∧ t.kids.length ≤ 90000 ∧ ∃ a b ns, t.kids = a :: b :: ns ∧ Wp n a ∧ Wp n b) ∨
  (t.kind = 0 ∧ t.kids.length ≤ 90000 ∧ ∃ its mn, t.kids = its ++ [mn] ∧ mn.kind ≠ 1 ∧ mn.kind ≠ 2 ∧ Wp n mn ∧ ∀ q ∈ its, (q.kind = 1 ∧ ∃ a b, q.kids = [a, b] ∧ Wp n a ∧ Wp n b) ∨ (q.kind = 2 ∧ ∃ f a, q.kids = [f] ∧ f.kind = 7 ∧ f.kids = [a] ∧ Wp n a)))
def PrOK (n : Nat) : Prop := ∀ (t : Tr), Wp n t → ∀ (w0 : World) (v : Value) (B b : Nat), TabW w0 → w0.heap.size ≤ B → Ki w0 v t.kids → BP w0 B b (nodeV t v) (tk n t)
theorem wp_ok {n : Nat} (h : PrOK n) {t : Tr} (ht : Wp n t) {w0 : World} {v : Value} {B b : Nat} (hT : TabW w0) (hB : w0.heap.size ≤ B) (hk : Ki w0 v t.kids) (least : Int) : WP w0 B b (nodeV t v) least (inP (tk n) t least) := by
 obtain ⟨a, c, rfl⟩ := hk.slice
 exact writeP_any w0 B b t.kind t.pos t.num least t.name a t.kids.length c _ hB (h t ht w0 _ B b hT hB hk)
theorem wp_ok0 {n : Nat} (h : PrOK n) {t : Tr} (ht : Wp n t) {w0 : World} {v : Value} {B b : Nat} (hT : TabW w0) (hB : w0.heap.size ≤ B) (hk : Ki w0 v t.kids) : WP w0 B b (nodeV t v) 0 (tk n t) := by
 have := wp_ok (b := b) h ht hT hB hk 0
 rwa [inP0] at this
theorem wp_bp {w0 : World} {v : Value} {B b : Nat} {t : Tr} {ts : List (List UInt8)} (hB : w0.heap.size ≤ B) (hk : Ki w0 v t.kids) (h : BP w0 B b (nodeV t v) ts) : WP w0 B b (nodeV t v) 0 ts := by
 obtain ⟨a, c, rfl⟩ := hk.slice
 have := writeP_any w0 B b t.kind t.pos t.num 0 t.name a t.kids.length c _ hB h
 rwa [if_pos (lev_nonneg _ _)] at this

theorem prn_fn {n : Nat} (h : PrOK n) (p : Nat) (x : List UInt8) (m : Int) (a : Tr) (ha : Wp n a) (w0 : World) (v : Value) (B b0 : Nat) (hT : TabW w0) (hB : w0.heap.size ≤ B) (hk : Ki w0 v [a]) :
  BP w0 B b0 (nodeV (.mk 7 p x m [a]) v) ([[102, 110], x] ++ ([61, 62] :: tk n a)) := by
 obtain ⟨g, o, cap, ks, rfl, hcap, hg, hcell, hkk⟩ := hk.cells (by simp)
 exact pk_fn w0 B b0 p m x g o cap a.kind a.pos ⟨a.name.toArray⟩ a.num (ks 0) _ hB hg hcap (by simpa using hcell 0 (by simp)) (wp_ok0 h ha hT hB (hkk 0 (by simp)))


theorem prn_if {n : Nat} (h : PrOK n) (p : Nat) (x : List UInt8) (m : Int) (a b c : Tr) (ha : Wp n a) (hb : Wp n b) (hc : Wp n c) (w0 : World) (v : Value) (B b0 : Nat) (hT : TabW w0) (hB : w0.heap.size ≤ B) (hk : Ki w0 v [a, b, c]) :
  BP w0 B b0 (nodeV (.mk 11 p x m [a, b, c]) v) (([105, 102] :: tk n a) ++ ([116, 104, 101, 110] :: tk n b) ++ ([101, 108, 115, 101] :: tk n c)) := by
 obtain ⟨g, o, cap, ks, rfl, hcap, hg, hcell, hkk⟩ := hk.cells (by simp)
 exact pk_if w0 B b0 p m x g o cap a.kind a.pos ⟨a.name.toArray⟩ a.num (ks 0) b.kind b.pos ⟨b.name.toArray⟩ b.num (ks 1) c.kind c.pos ⟨c.name.toArray⟩ c.num (ks 2) _ _ _ hB hg hcap (by simpa using hcell 0 (by simp)) (by simpa using hcell 1 (by simp)) (by simpa using hcell 2 (by simp)) (wp_ok0 h ha hT hB (hkk 0 (by simp))) (wp_ok0 h hb hT hB (hkk 1 (by simp))) (wp_ok0 h hc hT hB (hkk 2 (by simp)))


theorem prn_pair {n : Nat} (h : PrOK n) (p : Nat) (x : List UInt8) (m : Int) (a b : Tr) (ha : Wp n a) (hb : Wp n b) (w0 : World) (v : Value) (B b0 : Nat) (hT : TabW w0) (hB : w0.heap.size ≤ B) (hk : Ki w0 v [a, b]) :
  BP w0 B b0 (nodeV (.mk 12 p x m [a, b]) v) (([40] :: tk n a) ++ ([44] :: tk n b) ++ [[41]]) := by
 obtain ⟨g, o, cap, ks, rfl, hcap, hg, hcell, hkk⟩ := hk.cells (by simp)
 exact pk_pair w0 B b0 p m x g o cap a.kind a.pos ⟨a.name.toArray⟩ a.num (ks 0) b.kind b.pos ⟨b.name.toArray⟩ b.num (ks 1) _ _ hB hg hcap (by simpa using hcell 0 (by simp)) (by simpa using hcell 1 (by simp)) (wp_ok0 h ha hT hB (hkk 0 (by simp))) (wp_ok0 h hb hT hB (hkk 1 (by simp)))


theorem prn_seq {n : Nat} (h : PrOK n) (p : Nat) (x : List UInt8) (m : Int) (a b : Tr) (ha : Wp n a) (hb : Wp n b) (w0 : World) (v : Value) (B b0 : Nat) (hT : TabW w0) (hB : w0.heap.size ≤ B) (hk : Ki w0 v [a, b]) :
  BP w0 B b0 (nodeV (.mk 10 p x m [a, b]) v) (inP (tk n) a 1 ++ [[59]] ++ tk n b) := by
 obtain ⟨g, o, cap, ks, rfl, hcap, hg, hcell, hkk⟩ := hk.cells (by simp)
 exact bd_10 w0 B b0 p m x _ _ _ _ hB (pk_seq w0 B b0 p m x g o cap a.kind a.pos ⟨a.name.toArray⟩ a.num (ks 0) b.kind b.pos ⟨b.name.toArray⟩ b.num (ks 1) _ _ hB hg hcap (by simpa using hcell 0 (by simp)) (by simpa using hcell 1 (by simp)) (wp_ok h ha hT hB (hkk 0 (by simp)) 1) (wp_ok0 h hb hT hB (hkk 1 (by simp))))


theorem prn_cons {n : Nat} (h : PrOK n) (p : Nat) (x : List UInt8) (m : Int) (a b : Tr) (ha : Wp n a) (hb : Wp n b) (w0 : World) (v : Value) (B b0 : Nat) (hT : TabW w0) (hB : w0.heap.size ≤ B) (hk : Ki w0 v [a, b]) :
  BP w0 B b0 (nodeV (.mk 16 p x m [a, b]) v) (inP (tk n) a 3 ++ [[58, 58]] ++ inP (tk n) b 2) := by
 obtain ⟨g, o, cap, ks, rfl, hcap, hg, hcell, hkk⟩ := hk.cells (by simp)
 exact bd_16 w0 B b0 p m x _ _ _ _ hB (pk_cons w0 B b0 p m x g o cap a.kind a.pos ⟨a.name.toArray⟩ a.num (ks 0) b.kind b.pos ⟨b.name.toArray⟩ b.num (ks 1) _ _ hB hg hcap (by simpa using hcell 0 (by simp)) (by simpa using hcell 1 (by simp)) (wp_ok h ha hT hB (hkk 0 (by simp)) 3) (wp_ok h hb hT hB (hkk 1 (by simp)) 2))


theorem prn_ypair {n : Nat} (h : PrOK n) (p : Nat) (x : List UInt8) (m : Int) (a b : Tr) (ha : Wp n a) (hb : Wp n b) (w0 : World) (v : Value) (B b0 : Nat) (hT : TabW w0) (hB : w0.heap.size ≤ B) (hk : Ki w0 v [a, b]) :
  BP w0 B b0 (nodeV (.mk 28 p x m [a, b]) v) (inP (tk n) a 2 ++ [[42]] ++ inP (tk n) b 1) := by
 obtain ⟨g, o, cap, ks, rfl, hcap, hg, hcell, hkk⟩ := hk.cells (by simp)
 exact bd_28 w0 B b0 p m x _ _ _ _ hB (pk_ypair w0 B b0 p m x g o cap a.kind a.pos ⟨a.name.toArray⟩ a.num (ks 0) b.kind b.pos ⟨b.name.toArray⟩ b.num (ks 1) _ _ hB hg hcap (by simpa using hcell 0 (by simp)) (by simpa using hcell 1 (by simp)) (wp_ok h ha hT hB (hkk 0 (by simp)) 2) (wp_ok h hb hT hB (hkk 1 (by simp)) 1))


theorem prn_plus {n : Nat} (h : PrOK n) (p : Nat) (x : List UInt8) (m : Int) (a b : Tr) (ha : Wp n a) (hb : Wp n b) (hxx : x = [43]) (w0 : World) (v : Value) (B b0 : Nat) (hT : TabW w0) (hB : w0.heap.size ≤ B) (hk : Ki w0 v [a, b]) :
  BP w0 B b0 (nodeV (.mk 18 p x m [a, b]) v) (inP (tk n) a 3 ++ [x] ++ inP (tk n) b 4) := by
 obtain ⟨g, o, cap, ks, rfl, hcap, hg, hcell, hkk⟩ := hk.cells (by simp)
 exact bd_18 w0 B b0 p m x _ _ _ _ hB (pk_plus w0 B b0 p m x g o cap a.kind a.pos ⟨a.name.toArray⟩ a.num (ks 0) b.kind b.pos ⟨b.name.toArray⟩ b.num (ks 1) _ _ hB hg hcap (by simpa using hcell 0 (by simp)) (by simpa using hcell 1 (by simp)) (wp_ok h ha hT hB (hkk 0 (by simp)) 3) (wp_ok h hb hT hB (hkk 1 (by simp)) 4) hxx)


theorem prn_minus {n : Nat} (h : PrOK n) (p : Nat) (x : List UInt8) (m : Int) (a b : Tr) (ha : Wp n a) (hb : Wp n b) (hxx : x = [45]) (w0 : World) (v : Value) (B b0 : Nat) (hT : TabW w0) (hB : w0.heap.size ≤ B) (hk : Ki w0 v [a, b]) :
  BP w0 B b0 (nodeV (.mk 18 p x m [a, b]) v) (inP (tk n) a 3 ++ [x] ++ inP (tk n) b 4) := by
 obtain ⟨g, o, cap, ks, rfl, hcap, hg, hcell, hkk⟩ := hk.cells (by simp)
 exact bd_18 w0 B b0 p m x _ _ _ _ hB (pk_minus w0 B b0 p m x g o cap a.kind a.pos ⟨a.name.toArray⟩ a.num (ks 0) b.kind b.pos ⟨b.name.toArray⟩ b.num (ks 1) _ _ hB hg hcap (by simpa using hcell 0 (by simp)) (by simpa using hcell 1 (by simp)) (wp_ok h ha hT hB (hkk 0 (by simp)) 3) (wp_ok h hb hT hB (hkk 1 (by simp)) 4) hxx)


theorem prn_star {n : Nat} (h : PrOK n) (p : Nat) (x : List UInt8) (m : Int) (a b : Tr) (ha : Wp n a) (hb : Wp n b) (hxx : x = [42]) (w0 : World) (v : Value) (B b0 : Nat) (hT : TabW w0) (hB : w0.heap.size ≤ B) (hk : Ki w0 v [a, b]) :
  BP w0 B b0 (nodeV (.mk 18 p x m [a, b]) v) (inP (tk n) a 4 ++ [x] ++ inP (tk n) b 5) := by
 obtain ⟨g, o, cap, ks, rfl, hcap, hg, hcell, hkk⟩ := hk.cells (by simp)
 exact bd_18 w0 B b0 p m x _ _ _ _ hB (pk_star w0 B b0 p m x g o cap a.kind a.pos ⟨a.name.toArray⟩ a.num (ks 0) b.kind b.pos ⟨b.name.toArray⟩ b.num (ks 1) _ _ hB hg hcap (by simpa using hcell 0 (by simp)) (by simpa using hcell 1 (by simp)) (wp_ok h ha hT hB (hkk 0 (by simp)) 4) (wp_ok h hb hT hB (hkk 1 (by simp)) 5) hxx)


theorem prn_lt {n : Nat} (h : PrOK n) (p : Nat) (x : List UInt8) (m : Int) (a b : Tr) (ha : Wp n a) (hb : Wp n b) (hxx : x = [60]) (w0 : World) (v : Value) (B b0 : Nat) (hT : TabW w0) (hB : w0.heap.size ≤ B) (hk : Ki w0 v [a, b]) :
  BP w0 B b0 (nodeV (.mk 18 p x m [a, b]) v) (inP (tk n) a 2 ++ [x] ++ inP (tk n) b 2) := by
 obtain ⟨g, o, cap, ks, rfl, hcap, hg, hcell, hkk⟩ := hk.cells (by simp)
 exact bd_18 w0 B b0 p m x _ _ _ _ hB (pk_lt w0 B b0 p m x g o cap a.kind a.pos ⟨a.name.toArray⟩ a.num (ks 0) b.kind b.pos ⟨b.name.toArray⟩ b.num (ks 1) _ _ hB hg hcap (by simpa using hcell 0 (by simp)) (by simpa using hcell 1 (by simp)) (wp_ok h ha hT hB (hkk 0 (by simp)) 2) (wp_ok h hb hT hB (hkk 1 (by simp)) 2) hxx)


theorem prn_eq {n : Nat} (h : PrOK n) (p : Nat) (x : List UInt8) (m : Int) (a b : Tr) (ha : Wp n a) (hb : Wp n b) (hxx : x = [61, 61]) (w0 : World) (v : Value) (B b0 : Nat) (hT : TabW w0) (hB : w0.heap.size ≤ B) (hk : Ki w0 v [a, b]) :
  BP w0 B b0 (nodeV (.mk 18 p x m [a, b]) v) (inP (tk n) a 2 ++ [x] ++ inP (tk n) b 2) := by
 obtain ⟨g, o, cap, ks, rfl, hcap, hg, hcell, hkk⟩ := hk.cells (by simp)
 exact bd_18 w0 B b0 p m x _ _ _ _ hB (pk_eq w0 B b0 p m x g o cap a.kind a.pos ⟨a.name.toArray⟩ a.num (ks 0) b.kind b.pos ⟨b.name.toArray⟩ b.num (ks 1) _ _ hB hg hcap (by simpa using hcell 0 (by simp)) (by simpa using hcell 1 (by simp)) (wp_ok h ha hT hB (hkk 0 (by simp)) 2) (wp_ok h hb hT hB (hkk 1 (by simp)) 2) hxx)


theorem prn_do {n : Nat} (h : PrOK n) (p : Nat) (x : List UInt8) (m : Int) (a : Tr) (ha : Wp n a) (w0 : World) (v : Value) (B b0 : Nat) (hT : TabW w0) (hB : w0.heap.size ≤ B) (hk : Ki w0 v [a]) :
  BP w0 B b0 (nodeV (.mk 19 p x m [a]) v) ([[100, 111], x] ++ inP (tk n) a 6) := by
 obtain ⟨g, o, cap, ks, rfl, hcap, hg, hcell, hkk⟩ := hk.cells (by simp)
 obtain ⟨va, vc, hv⟩ := (hkk 0 (by simp)).slice
 exact bd_19 w0 B b0 p m x _ _ _ _ hB (pa_do w0 B b0 p m x g o cap a.kind a.pos ⟨a.name.toArray⟩ a.num va _ vc _ hB hg hcap (by rw [← hv]; simpa using hcell 0 (by simp)) (by rw [← hv]; exact (wp_ok h ha hT hB (hkk 0 (by simp)) 6)))


theorem prn_fst {n : Nat} (h : PrOK n) (p : Nat) (x : List UInt8) (m : Int) (a : Tr) (ha : Wp n a) (w0 : World) (v : Value) (B b0 : Nat) (hT : TabW w0) (hB : w0.heap.size ≤ B) (hk : Ki w0 v [a]) :
  BP w0 B b0 (nodeV (.mk 13 p x m [a]) v) ([[102, 115, 116]] ++ inP (tk n) a 6) := by
 obtain ⟨g, o, cap, ks, rfl, hcap, hg, hcell, hkk⟩ := hk.cells (by simp)
 obtain ⟨va, vc, hv⟩ := (hkk 0 (by simp)).slice
 exact bd_13 w0 B b0 p m x _ _ _ _ hB (pa_fst w0 B b0 p m x g o cap a.kind a.pos ⟨a.name.toArray⟩ a.num va _ vc _ hB hg hcap (by rw [← hv]; simpa using hcell 0 (by simp)) (by rw [← hv]; exact (wp_ok h ha hT hB (hkk 0 (by simp)) 6)))


theorem prn_snd {n : Nat} (h : PrOK n) (p : Nat) (x : List UInt8) (m : Int) (a : Tr) (ha : Wp n a) (w0 : World) (v : Value) (B b0 : Nat) (hT : TabW w0) (hB : w0.heap.size ≤ B) (hk : Ki w0 v [a]) :
  BP w0 B b0 (nodeV (.mk 14 p x m [a]) v) ([[115, 110, 100]] ++ inP (tk n) a 6) := by
 obtain ⟨g, o, cap, ks, rfl, hcap, hg, hcell, hkk⟩ := hk.cells (by simp)
 obtain ⟨va, vc, hv⟩ := (hkk 0 (by simp)).slice
 exact bd_14 w0 B b0 p m x _ _ _ _ hB (pa_snd w0 B b0 p m x g o cap a.kind a.pos ⟨a.name.toArray⟩ a.num va _ vc _ hB hg hcap (by rw [← hv]; simpa using hcell 0 (by simp)) (by rw [← hv]; exact (wp_ok h ha hT hB (hkk 0 (by simp)) 6)))


theorem prn_ylist {n : Nat} (h : PrOK n) (p : Nat) (x : List UInt8) (m : Int) (a : Tr) (ha : Wp n a) (w0 : World) (v : Value) (B b0 : Nat) (hT : TabW w0) (hB : w0.heap.size ≤ B) (hk : Ki w0 v [a]) :
  BP w0 B b0 (nodeV (.mk 27 p x m [a]) v) (inP (tk n) a 2 ++ [[108, 105, 115, 116]]) := by
 obtain ⟨g, o, cap, ks, rfl, hcap, hg, hcell, hkk⟩ := hk.cells (by simp)
 obtain ⟨va, vc, hv⟩ := (hkk 0 (by simp)).slice
 exact bd_27 w0 B b0 p m x _ _ _ _ hB (pa_ylist w0 B b0 p m x g o cap a.kind a.pos ⟨a.name.toArray⟩ a.num va _ vc _ hB hg hcap (by rw [← hv]; simpa using hcell 0 (by simp)) (by rw [← hv]; exact (wp_ok h ha hT hB (hkk 0 (by simp)) 2)))


theorem prn_app {n : Nat} (h : PrOK n) (p : Nat) (x : List UInt8) (m : Int) (a b : Tr) (ha : Wp n a) (hb : Wp n b) (w0 : World) (v : Value) (B b0 : Nat) (hT : TabW w0) (hB : w0.heap.size ≤ B) (hk : Ki w0 v [a, b]) :
  BP w0 B b0 (nodeV (.mk 8 p x m [a, b]) v) ((if a.kind = 8 then tk n a else inP (tk n) a 6) ++ inP (tk n) b 6) := by
 obtain ⟨g, o, cap, ks, rfl, hcap, hg, hcell, hkk⟩ := hk.cells (by simp)
 obtain ⟨va, vc, hv⟩ := (hkk 0 (by simp)).slice
 obtain ⟨ua, uc, hu⟩ := (hkk 1 (by simp)).slice
 have hf := function_any w0 B b0 a.kind a.pos a.num ⟨a.name.toArray⟩ (ks 0) (tk n a) (inP (tk n) a 6) hB (h _ ha w0 _ B b0 hT hB (hkk 0 (by simp))) (wp_ok h ha hT hB (hkk 0 (by simp)) 6)
 have ei : (if (a.kind : Int) = 8 then tk n a else inP (tk n) a 6) = (if a.kind = 8 then tk n a else inP (tk n) a 6) := by
  by_cases h8 : a.kind = 8
  ·rw [if_pos h8, if_pos (by omega)]
  ·rw [if_neg h8, if_neg (by omega)]
 rw [ei] at hf
 exact bd_8 w0 B b0 p m x _ _ _ _ hB (pa_app w0 B b0 p m x g o cap a.kind a.pos ⟨a.name.toArray⟩ a.num va _ vc b.kind b.pos ⟨b.name.toArray⟩ b.num ua _ uc _ _ hB hg hcap (by rw [← hv]; simpa using hcell 0 (by simp)) (by rw [← hu]; simpa using hcell 1 (by simp)) (by rw [← hv]; exact hf) (by rw [← hu]; exact (wp_ok h hb hT hB (hkk 1 (by simp)) 6)))


theorem prn_case {n : Nat} (h : PrOK n) (p : Nat) (x : List UInt8) (m : Int) (a b c d e : Tr) (ha : Wp n a) (hb : Wp n b) (he : Wp n e) (w0 : World) (v : Value) (B b0 : Nat) (hT : TabW w0) (hB : w0.heap.size ≤ B) (hk : Ki w0 v [a, b, c, d, e]) :
  BP w0 B b0 (nodeV (.mk 17 p x m [a, b, c, d, e]) v) (([99, 97, 115, 101] :: tk n a) ++ [[111, 102], [91], [93]] ++ ([61, 62] :: tk n b) ++ [[124], c.name, [58, 58], d.name] ++ ([61, 62] :: tk n e) ++ [[101, 110, 100]]) := by
 obtain ⟨g, o, cap, ks, rfl, hcap, hg, hcell, hkk⟩ := hk.cells (by simp)
 exact bd_17 w0 B b0 p m x _ _ _ _ hB (pk_cases w0 B b0 p m x g o cap a.kind a.pos ⟨a.name.toArray⟩ a.num (ks 0) b.kind b.pos ⟨b.name.toArray⟩ b.num (ks 1) c.kind c.pos ⟨c.name.toArray⟩ c.num (ks 2) d.kind d.pos ⟨d.name.toArray⟩ d.num (ks 3) e.kind e.pos ⟨e.name.toArray⟩ e.num (ks 4) c.name rfl d.name rfl _ _ _ hB hg hcap (by simpa using hcell 0 (by simp)) (by simpa using hcell 1 (by simp)) (by simpa using hcell 2 (by simp)) (by simpa using hcell 3 (by simp)) (by simpa using hcell 4 (by simp)) (wp_ok0 h ha hT hB (hkk 0 (by simp))) (wp_ok0 h hb hT hB (hkk 1 (by simp))) (wp_ok0 h he hT hB (hkk 4 (by simp))))


theorem prn_let {n : Nat} (h : PrOK n) (p : Nat) (x : List UInt8) (m : Int) (a b : Tr) (ha : Wp n a) (hb : Wp n b) (hm : m ≠ 1) (w0 : World) (v : Value) (B b0 : Nat) (hT : TabW w0) (hB : w0.heap.size ≤ B) (hk : Ki w0 v [a, b]) :
  BP w0 B b0 (nodeV (.mk 9 p x m [a, b]) v) (([[108, 101, 116]] ++ [x] ++ ([61] :: tk n a)) ++ ([105, 110] :: tk n b)) := by
 obtain ⟨g, o, cap, ks, rfl, hcap, hg, hcell, hkk⟩ := hk.cells (by simp)
 obtain ⟨va, vc, hv⟩ := (hkk 0 (by simp)).slice
 exact pk_elet w0 B b0 p m x g o cap b.kind b.pos ⟨b.name.toArray⟩ b.num (ks 1) _ _ hB hg hcap (by simpa using hcell 1 (by simp)) (pb_let w0 B b0 p m x [108, 101, 116] g o cap a.kind a.pos ⟨a.name.toArray⟩ a.num va _ vc _ hB hg hcap (by rw [← hv]; simpa using hcell 0 (by simp)) (by rw [← hv]; exact (wp_ok0 h ha hT hB (hkk 0 (by simp)))) (by omega)) (wp_ok0 h hb hT hB (hkk 1 (by simp)))
end Go.Proofs.YtoajnlhegallpaaGreatDoor
