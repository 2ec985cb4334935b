/-
  What the document's Tokens answers, for every text.
  Five contracts of the library, laid at this program by their names: strings.IndexByte, utf8.ValidRune, stringslite.Clone, strconv.ParseInt at base ten and 64 bits (a number that fits, a number that does not).
  What the program's small functions answer: whether a rune is a sign, of which class a rune is.
  What the program's classOf, span, isWord and textToken answer.
  What the program's span, isWord and textToken answer.
-/
import Derived.Test.YtoajnlhegallpaaGreatDoorMRef
import Derived.Shelf.Small.Utf8
import Derived.Shelf.Small.Strs
import Derived.Shelf.LaysM
import Derived.Shelf.Strconv.Clone
import Derived.Shelf.LaysC
import Derived.Shelf.Strconv.ParseIntPublic10
import Derived.Test.YtoajnlhegallpaaGreatDoorProg
import Derived.Lib.OthersKept
import Derived.Lib.IndexAny
set_option linter.unusedVariables false
set_option linter.unusedSimpArgs false
set_option maxRecDepth 100000
set_option maxHeartbeats 2000000
namespace Go.Proofs.YtoajnlhegallpaaGreatDoor
namespace Lr
open Go.RowKit

def tkCells (t : Lx.Tk) : List Value := [.int .i64 t.kind, .int .i64 t.pos, .string ⟨t.text.toArray⟩, .int .i64 t.num]
def cellsOf (ts : List Lx.Tk) : List Value := ts.flatMap tkCells
theorem cellsOf_snoc (ts : List Lx.Tk) (t : Lx.Tk) : cellsOf ts ++ tkCells t = cellsOf (ts ++ [t]) := by simp [cellsOf]

def endOf : Except (Nat × Nat) (List Lx.Tk) → Nat × Nat × List Lx.Tk
 | .error (k, p) => (k, p, [])
 | .ok ts => (0, 0, ts)
def answer (s : ByteArray) : Nat × Nat × List Lx.Tk := if 3000 < s.size then (1, 0, []) else endOf (Lx.lex s.size 0 s.data.toList)
def TokPost (s : ByteArray) (w : World) (e : Ending) (w' : World) : Prop :=
 ∃ v, e = .returned (.tuple #[v, fltVal (answer s).1 (answer s).2.1]) ∧ w'.ownsRow w.heap.size 41 4 v (answer s).2.2.length (cellsOf (answer s).2.2) ∧ Below w.heap.size w w'

theorem answer_long {s : ByteArray} (h : 3000 < s.size) : answer s = (1, 0, []) := by simp [answer, h]
theorem answer_err {s : ByteArray} (h : s.size ≤ 3000) {k p : Nat} (hl : Lx.lex s.size 0 s.data.toList = .error (k, p)) : answer s = (k, p, []) := by
 rw [answer, if_neg (by omega), hl]; rfl
theorem answer_ok {s : ByteArray} (h : s.size ≤ 3000) {ts : List Lx.Tk} (hl : Lx.lex s.size 0 s.data.toList = .ok ts) : answer s = (0, 0, ts) := by
 rw [answer, if_neg (by omega), hl]; rfl

theorem pass_blank {s : ByteArray} {i : Nat} (h : i < s.size) (hb : Lx.isBl s[i] = true) : Lx.lex s.size (i + 1) (s.data.toList.drop (i + 1)) = Lx.lex s.size i (s.data.toList.drop i) := by
 rw [drop_cons s i h, Lx.lex_blank _ _ _ _ hb]
theorem pass_hash {s : ByteArray} {i : Nat} (h : i < s.size) (hb : (s[i]).toNat = 35) : Lx.lexRem s.size i (s.data.toList.drop i) = Lx.lex s.size i (s.data.toList.drop i) := by
 rw [drop_cons s i h, Lx.lex_hash _ _ _ _ hb]
def PassTo (s : ByteArray) (i j : Nat) : Prop :=
 i ≤ j ∧ j ≤ s.size ∧ Lx.lex s.size j (s.data.toList.drop j) = Lx.lex s.size i (s.data.toList.drop i) ∧ ∀ h : j < s.size, Lx.isBl s[j] = false ∧ (s[j]).toNat ≠ 35
theorem step_ok {s : ByteArray} {k j : Nat} (hp : PassTo s k j) (h : j < s.size) {t : Lx.Tk} {n : Nat} (ht : Lx.tokAt j (s.data.toList.drop j) = .ok (t, n)) :
  Lx.lex s.size k (s.data.toList.drop k) = Lx.consTo t (Lx.lex s.size (j + n) (s.data.toList.drop (j + n))) := by
 have hq := hp.2.2.2 h
 rw [← hp.2.2.1]
 rw [drop_cons s j h] at ht ⊢
 rw [Lx.lex_tok _ _ _ _ hq.1 hq.2 ht, ← drop_cons s j h, List.drop_drop]
theorem step_err {s : ByteArray} {k j : Nat} (hp : PassTo s k j) (h : j < s.size) {e : Nat × Nat} (ht : Lx.tokAt j (s.data.toList.drop j) = .error e) :
  Lx.lex s.size k (s.data.toList.drop k) = .error e := by
 have hq := hp.2.2.2 h
 rw [← hp.2.2.1]
 rw [drop_cons s j h] at ht ⊢
 rw [Lx.lex_err _ _ _ _ hq.1 hq.2 ht]
theorem step_len {s : ByteArray} {j : Nat} (h : j < s.size) {t : Lx.Tk} {n : Nat} (ht : Lx.tokAt j (s.data.toList.drop j) = .ok (t, n)) : 1 ≤ n ∧ j + n ≤ s.size := by
 have hl : (s.data.toList.drop j).length = s.size - j := by simp
 rw [drop_cons s j h] at ht hl
 have := Lx.tokAt_pos ht
 omega
theorem Tryz.info41 : (Tryz.prog.info? 41).map (fun i => (i.zero, i.size, i.bytes)) = some (some (.agg #[.int .i64 0, .int .i64 0, .string ⟨#[]⟩, .int .i64 0]), 4, 40) := by kernel_rfl

theorem grown_of_below {w w' : World} (h : Below w.heap.size w w') : w.grownBy w' none := ⟨h.os, h.tape, h.output, h.size, fun k hk _ => h.block k hk⟩
theorem own_below {w w' : World} {base : Nat} {e : TypeId} {size : Nat} {v : Value} {n : Nat} {xs : List Value} (h : w.ownsRow base e size v n xs) (hb : Below w.heap.size w w') : w'.ownsRow base e size v n xs :=
 h.kept (grown_of_below hb) (by cases hv : v.ownBlock <;> simp)

theorem new_cells {w : World} (t : Lx.Tk) (e : TypeId) : ∀ j u, (tkCells t)[j]? = some u → (w.alloc (.cells #[.int .i64 t.kind, .int .i64 t.pos, .string ⟨t.text.toArray⟩, .int .i64 t.num] e)).cell? ((⟨w.heap.size, 0, none⟩ : Addr).add j) = some u := by
 intro j u hj
 match j, hj with
 | 0, hj => simp [tkCells] at hj; subst hj; simp [Addr.add]
 | 1, hj => simp [tkCells] at hj; subst hj; simp [Addr.add]
 | 2, hj => simp [tkCells] at hj; subst hj; simp [Addr.add]
 | 3, hj => simp [tkCells] at hj; subst hj; simp [Addr.add]
 | n + 4, hj => simp [tkCells] at hj
theorem one_cells (t : Lx.Tk) : ∀ u ∈ tkCells t, u.oneCell' = true := by
 intro u hu
 simp [tkCells] at hu
 rcases hu with rfl | rfl | rfl | rfl <;> rfl
theorem answer_end {s : ByteArray} {k : Nat} {acc : List Lx.Tk} {t : Lx.Tk} (hs : s.size ≤ 3000) (h : Lx.appTo acc (Lx.lex s.size k (s.data.toList.drop k)) = Lx.lex s.size 0 s.data.toList) (hl : Lx.lex s.size k (s.data.toList.drop k) = .ok [t]) :
  answer s = (0, 0, acc ++ [t]) := by
 rw [hl] at h
 exact answer_ok hs h.symm
theorem answer_bad {s : ByteArray} {k a b : Nat} {acc : List Lx.Tk} (hs : s.size ≤ 3000) (h : Lx.appTo acc (Lx.lex s.size k (s.data.toList.drop k)) = Lx.lex s.size 0 s.data.toList) (hl : Lx.lex s.size k (s.data.toList.drop k) = .error (a, b)) :
  answer s = (a, b, []) := by
 rw [hl] at h
 exact answer_err hs h.symm
theorem own_app {w : World} {base : Nat} {v : Value} {acc : List Lx.Tk} {t : Lx.Tk} (h : w.ownsRow base 41 4 v (acc.length + 1) (cellsOf acc ++ tkCells t)) : w.ownsRow base 41 4 v (acc ++ [t]).length (cellsOf (acc ++ [t])) := by
 rw [cellsOf_snoc] at h
 simpa using h
end Lr
end Go.Proofs.YtoajnlhegallpaaGreatDoor

namespace Go.Proofs
open Go.Shelf
def Tryz.lays119_ren : Go.Shelf.Ren := ⟨fun | 119 => 139 | n => n, fun | 21 => 21 | 4 => 4 | n => n, fun | n => n⟩
theorem Tryz.lays119 : Go.Proofs.Lays.n119 Tryz.prog Tryz.lays119_ren := {
 mixed := by kernel_rfl
 f119 := Tryz.func139.trans (congrArg some (by kernel_rfl))
 t4 := Tryz.underlying4
 a4 := Tryz.isAgg4
 z4 := Tryz.sizeOf4
 v4 := Tryz.zeroValue4
 t21 := Tryz.underlying21
 a21 := Tryz.isAgg21
 z21 := Tryz.sizeOf21
 v21 := Tryz.zeroValue21 }
theorem Tryz.utf8_ValidRune (r : Int) (w : World) :
  Calls Tryz.prog 139 #[.int .i32 r] w fun e w' => e = .returned (.bool (Lib.validRune r)) ∧ w' = w := Any.utf8_ValidRune Tryz.lays119 r w
def Tryz.lays137_ren : Go.Shelf.Ren := ⟨fun | 137 => 55 | 217 => 94 | 266 => 126 | n => n, fun | 9 => 9 | 5 => 5 | 3 => 3 | n => n, fun | n => n⟩
theorem Tryz.lays137 : Go.Proofs.Lays.n137 Tryz.prog Tryz.lays137_ren := {
 mixed := by kernel_rfl
 f137 := Tryz.func55.trans (congrArg some (by kernel_rfl))
 f217 := Tryz.func94.trans (congrArg some (by kernel_rfl))
 f266 := Tryz.func126.trans (congrArg some (by kernel_rfl))
 t3 := Tryz.underlying3
 a3 := Tryz.isAgg3
 z3 := Tryz.sizeOf3
 v3 := Tryz.zeroValue3
 t5 := Tryz.underlying5
 a5 := Tryz.isAgg5
 z5 := Tryz.sizeOf5
 v5 := Tryz.zeroValue5
 t9 := Tryz.underlying9
 a9 := Tryz.isAgg9
 z9 := Tryz.sizeOf9
 v9 := Tryz.zeroValue9 }
open Go.RowKit in
theorem Tryz.strings_IndexByte (s : ByteArray) (c : Int) (w : World) :
  Calls Tryz.prog 55 #[.string s, .int .u8 c] w fun e w' => e = .returned (.int .i64 (Lib.indexByte s.data.toList c.toNat.toUInt8)) ∧ w' = w := Any.strings_IndexByte Tryz.lays137 s c w
def Tryz.laysM316_ren : Go.Shelf.Ren := ⟨fun | 316 => 147 | n => n, fun | 9 => 9 | 3 => 3 | 4 => 4 | 37 => 74 | 0 => 0 | 127 => 101 | 5 => 5 | n => n, fun | n => n⟩
theorem Tryz.laysM316 : Go.Proofs.LaysM.n316 Tryz.prog Tryz.laysM316_ren := {
 mixed := by kernel_rfl
 f316 := Tryz.func147.trans (congrArg some (by kernel_rfl))
 t0 := Tryz.underlying0
 a0 := Tryz.isAgg0
 z0 := Tryz.sizeOf0
 v0 := Tryz.zeroValue0
 t3 := Tryz.underlying3
 a3 := Tryz.isAgg3
 z3 := Tryz.sizeOf3
 v3 := Tryz.zeroValue3
 t4 := Tryz.underlying4
 a4 := Tryz.isAgg4
 z4 := Tryz.sizeOf4
 v4 := Tryz.zeroValue4
 t9 := Tryz.underlying9
 a9 := Tryz.isAgg9
 z9 := Tryz.sizeOf9
 v9 := Tryz.zeroValue9
 t37 := Tryz.underlying74
 a37 := Tryz.isAgg74
 z37 := Tryz.sizeOf74
 v37 := Tryz.zeroValue74
 t127 := Tryz.underlying101
 a127 := Tryz.isAgg101
 z127 := Tryz.sizeOf101
 v127 := Tryz.zeroValue101
 t5 := Tryz.underlying5
 a5 := Tryz.isAgg5
 z5 := Tryz.sizeOf5
 v5 := Tryz.zeroValue5
 i0 := by kernel_rfl
 i3 := by kernel_rfl
 i4 := by kernel_rfl
 i5 := by kernel_rfl
 i9 := by kernel_rfl
 i37 := by kernel_rfl
 i127 := by kernel_rfl }
open Go.RowKit in
theorem Tryz.stringslite_Clone (s : ByteArray) (w : World) (hlim : s.size ≤ 281474976710656) :
  Calls Tryz.prog 147 #[.string s] w fun e w' => e = .returned (.string s) ∧ Below w.heap.size w w' := Any.stringslite_Clone Tryz.laysM316 s w hlim
def Tryz.laysC174_ren : Go.Shelf.Ren := ⟨fun | 174 => 96 | 247 => 127 | 245 => 128 | 287 => 142 | 279 => 143 | 280 => 144 | 281 => 145 | 282 => 146 | 321 => 153 | 322 => 154 | 316 => 147 | 171 => 138 | 205 => 155 | 243 => 152 | 246 => 159 | 283 => 162 | 284 => 163 | 285 => 164 | 286 => 165 | 129 => 171 | 317 => 170 | 318 => 172 | 319 => 173 | 320 => 174 | 337 => 179 | 338 => 180 | n => n, fun | 9 => 9 | 3 => 3 | 2 => 2 | 75 => 79 | 85 => 104 | 4 => 4 | 167 => 126 | 5 => 5 | 53 => 127 | 175 => 128 | 46 => 124 | 168 => 130 | 37 => 74 | 0 => 0 | 210 => 135 | 21 => 21 | 127 => 101 | 145 => 141 | 143 => 139 | 171 => 142 | 173 => 145 | 212 => 149 | 51 => 150 | 20 => 20 | 213 => 151 | 232 => 155 | 233 => 156 | 80 => 82 | n => n, fun | 15 => 1 | 16 => 2 | 17 => 3 | 18 => 4 | 19 => 5 | n => n⟩
theorem Tryz.laysC174 : Go.Proofs.LaysC.n174 Tryz.prog Tryz.laysC174_ren := {
 mixed := by kernel_rfl
 f129 := Tryz.func171.trans (congrArg some (by kernel_rfl))
 f171 := Tryz.func138.trans (congrArg some (by kernel_rfl))
 f174 := Tryz.func96.trans (congrArg some (by kernel_rfl))
 f205 := Tryz.func155.trans (congrArg some (by kernel_rfl))
 f243 := Tryz.func152.trans (congrArg some (by kernel_rfl))
 f245 := Tryz.func128.trans (congrArg some (by kernel_rfl))
 f246 := Tryz.func159.trans (congrArg some (by kernel_rfl))
 f247 := Tryz.func127.trans (congrArg some (by kernel_rfl))
 f279 := Tryz.func143.trans (congrArg some (by kernel_rfl))
 f280 := Tryz.func144.trans (congrArg some (by kernel_rfl))
 f281 := Tryz.func145.trans (congrArg some (by kernel_rfl))
 f282 := Tryz.func146.trans (congrArg some (by kernel_rfl))
 f283 := Tryz.func162.trans (congrArg some (by kernel_rfl))
 f284 := Tryz.func163.trans (congrArg some (by kernel_rfl))
 f285 := Tryz.func164.trans (congrArg some (by kernel_rfl))
 f286 := Tryz.func165.trans (congrArg some (by kernel_rfl))
 f287 := Tryz.func142.trans (congrArg some (by kernel_rfl))
 f316 := Tryz.func147.trans (congrArg some (by kernel_rfl))
 f317 := Tryz.func170.trans (congrArg some (by kernel_rfl))
 f318 := Tryz.func172.trans (congrArg some (by kernel_rfl))
 f319 := Tryz.func173.trans (congrArg some (by kernel_rfl))
 f320 := Tryz.func174.trans (congrArg some (by kernel_rfl))
 f321 := Tryz.func153.trans (congrArg some (by kernel_rfl))
 f322 := Tryz.func154.trans (congrArg some (by kernel_rfl))
 f337 := Tryz.func179.trans (congrArg some (by kernel_rfl))
 f338 := Tryz.func180.trans (congrArg some (by kernel_rfl))
 t0 := Tryz.underlying0
 a0 := Tryz.isAgg0
 z0 := Tryz.sizeOf0
 v0 := Tryz.zeroValue0
 t2 := Tryz.underlying2
 a2 := Tryz.isAgg2
 z2 := Tryz.sizeOf2
 v2 := Tryz.zeroValue2
 t3 := Tryz.underlying3
 a3 := Tryz.isAgg3
 z3 := Tryz.sizeOf3
 v3 := Tryz.zeroValue3
 t4 := Tryz.underlying4
 a4 := Tryz.isAgg4
 z4 := Tryz.sizeOf4
 v4 := Tryz.zeroValue4
 t5 := Tryz.underlying5
 a5 := Tryz.isAgg5
 z5 := Tryz.sizeOf5
 v5 := Tryz.zeroValue5
 t9 := Tryz.underlying9
 a9 := Tryz.isAgg9
 z9 := Tryz.sizeOf9
 v9 := Tryz.zeroValue9
 t20 := Tryz.underlying20
 a20 := Tryz.isAgg20
 z20 := Tryz.sizeOf20
 v20 := Tryz.zeroValue20
 t21 := Tryz.underlying21
 a21 := Tryz.isAgg21
 z21 := Tryz.sizeOf21
 v21 := Tryz.zeroValue21
 t37 := Tryz.underlying74
 a37 := Tryz.isAgg74
 z37 := Tryz.sizeOf74
 v37 := Tryz.zeroValue74
 t46 := Tryz.underlying124
 a46 := Tryz.isAgg124
 z46 := Tryz.sizeOf124
 v46 := Tryz.zeroValue124
 t51 := Tryz.underlying150
 a51 := Tryz.isAgg150
 z51 := Tryz.sizeOf150
 v51 := Tryz.zeroValue150
 t53 := Tryz.underlying127
 a53 := Tryz.isAgg127
 z53 := Tryz.sizeOf127
 v53 := Tryz.zeroValue127
 t75 := Tryz.underlying79
 a75 := Tryz.isAgg79
 z75 := Tryz.sizeOf79
 v75 := Tryz.zeroValue79
 t85 := Tryz.underlying104
 a85 := Tryz.isAgg104
 z85 := Tryz.sizeOf104
 v85 := Tryz.zeroValue104
 t127 := Tryz.underlying101
 a127 := Tryz.isAgg101
 z127 := Tryz.sizeOf101
 v127 := Tryz.zeroValue101
 t143 := Tryz.underlying139
 a143 := Tryz.isAgg139
 z143 := Tryz.sizeOf139
 v143 := Tryz.zeroValue139
 t145 := Tryz.underlying141
 a145 := Tryz.isAgg141
 z145 := Tryz.sizeOf141
 v145 := Tryz.zeroValue141
 t167 := Tryz.underlying126
 a167 := Tryz.isAgg126
 z167 := Tryz.sizeOf126
 v167 := Tryz.zeroValue126
 t168 := Tryz.underlying130
 a168 := Tryz.isAgg130
 z168 := Tryz.sizeOf130
 v168 := Tryz.zeroValue130
 t171 := Tryz.underlying142
 a171 := Tryz.isAgg142
 z171 := Tryz.sizeOf142
 v171 := Tryz.zeroValue142
 t173 := Tryz.underlying145
 a173 := Tryz.isAgg145
 z173 := Tryz.sizeOf145
 v173 := Tryz.zeroValue145
 t175 := Tryz.underlying128
 a175 := Tryz.isAgg128
 z175 := Tryz.sizeOf128
 v175 := Tryz.zeroValue128
 t210 := Tryz.underlying135
 a210 := Tryz.isAgg135
 z210 := Tryz.sizeOf135
 v210 := Tryz.zeroValue135
 t212 := Tryz.underlying149
 a212 := Tryz.isAgg149
 z212 := Tryz.sizeOf149
 v212 := Tryz.zeroValue149
 t213 := Tryz.underlying151
 a213 := Tryz.isAgg151
 z213 := Tryz.sizeOf151
 t232 := Tryz.underlying155
 a232 := Tryz.isAgg155
 z232 := Tryz.sizeOf155
 v232 := Tryz.zeroValue155
 t233 := Tryz.underlying156
 a233 := Tryz.isAgg156
 z233 := Tryz.sizeOf156
 v233 := Tryz.zeroValue156
 g15 := by kernel_rfl
 g16 := by kernel_rfl
 g17 := by kernel_rfl
 g18 := by kernel_rfl
 g19 := by kernel_rfl
 t80 := Tryz.underlying82
 a80 := Tryz.isAgg82
 z80 := Tryz.sizeOf82
 v80 := Tryz.zeroValue82
 i0 := by kernel_rfl
 i2 := by kernel_rfl
 i3 := by kernel_rfl
 i4 := by kernel_rfl
 i5 := by kernel_rfl
 i9 := by kernel_rfl
 i20 := by kernel_rfl
 i21 := by kernel_rfl
 i37 := by kernel_rfl
 i46 := by kernel_rfl
 i51 := by kernel_rfl
 i53 := by kernel_rfl
 i75 := by kernel_rfl
 i80 := by kernel_rfl
 i85 := by kernel_rfl
 i127 := by kernel_rfl
 i143 := by kernel_rfl
 i145 := by kernel_rfl
 i167 := by kernel_rfl
 i168 := by kernel_rfl
 i171 := by kernel_rfl
 i173 := by kernel_rfl
 i175 := by kernel_rfl
 i210 := by kernel_rfl
 i212 := by kernel_rfl
 i232 := by kernel_rfl
 i233 := by kernel_rfl
 m15 := by kernel_rfl
 m16 := by kernel_rfl
 m17 := by kernel_rfl
 m18 := by kernel_rfl
 m19 := by kernel_rfl
 c0 := by kernel_rfl
 c2 := by kernel_rfl
 c3 := by kernel_rfl
 c4 := by kernel_rfl
 c5 := by kernel_rfl
 c9 := by kernel_rfl
 c20 := by kernel_rfl
 c21 := by kernel_rfl
 c37 := by kernel_rfl
 c46 := by kernel_rfl
 c51 := by kernel_rfl
 c53 := by kernel_rfl
 c75 := by kernel_rfl
 c80 := by kernel_rfl
 c85 := by kernel_rfl
 c127 := by kernel_rfl
 c143 := by kernel_rfl
 c145 := by kernel_rfl
 c167 := by kernel_rfl
 c168 := by kernel_rfl
 c171 := by kernel_rfl
 c173 := by kernel_rfl
 c175 := by kernel_rfl
 c210 := by kernel_rfl
 c212 := by kernel_rfl
 c213 := by kernel_rfl
 c232 := by kernel_rfl
 c233 := by kernel_rfl }
open Go.RowKit in
theorem Tryz.strconv_ParseInt_10_at64_ok (s : ByteArray) (hmax : s.size ≤ 9223372036854775806) (v : Int) (h : Lib.parseIntB 64 s.data.toList = .ok v) (w : World) :
  Calls Tryz.prog 96 #[.string s, .int .i64 10, .int .i64 64] w fun e w' => e = .returned (.tuple #[.int .i64 v, .nilIface]) ∧ (w' = w ∨ ∃ t, w' = Lib.bytesWorld w 5 t) := Any.strconv_ParseInt_10_at64_ok Tryz.laysC174 s hmax v h w
open Go.RowKit in
theorem Tryz.strconv_ParseInt_10_at64_range (s : ByteArray) (hlim : s.size ≤ 281474976710656) (h : Lib.parseIntB 64 s.data.toList = .range) (ev : Value) (w : World) (hv : w.cell? ⟨2, 0, none⟩ = some ev) (hev : ev = .nilIface ∨ ∃ te pe, ev = .iface te pe) :
  Calls Tryz.prog 96 #[.string s, .int .i64 10, .int .i64 64] w fun e w' => ∃ N, e = .returned (.tuple #[.int .i64 (Lib.intSat 64 s.data.toList), .iface 130 (.pointer (some ⟨N, 0, none⟩))]) ∧ w.heap.size ≤ N ∧ w'.heap[N]? = some (.cells #[.string ⟨#[80, 97, 114, 115, 101, 73, 110, 116]⟩, .string s, ev] 135 (0, 0)) ∧ Below w.heap.size w w' := Any.strconv_ParseInt_10_at64_range Tryz.laysC174 s hlim h ev w hv hev
end Go.Proofs

namespace Go.Proofs.YtoajnlhegallpaaGreatDoor
namespace Lr
open Go.RowKit

def sigText : ByteArray := ⟨#[40, 41, 91, 93, 123, 125, 44, 59, 58, 61, 45, 43, 42, 60, 124, 126]⟩

theorem enc_facts (r : Int) (h : 128 ≤ r) : (∃ a z : UInt8, Utf8.encode r = ⟨#[a, z]⟩ ∧ 128 ≤ z.toNat) ∨ (∃ a b z : UInt8, Utf8.encode r = ⟨#[a, b, z]⟩ ∧ 128 ≤ z.toNat) ∨ (∃ a b c z : UInt8, Utf8.encode r = ⟨#[a, b, c, z]⟩ ∧ 128 ≤ z.toNat) := by
 obtain ⟨c, hc, he⟩ : ∃ c : Nat, 128 ≤ c ∧ Utf8.encode r = (let b (n : Nat) : UInt8 := UInt8.ofNat n
   if c < 0x80 then ⟨#[b c]⟩
   else if c < 0x800 then ⟨#[b (0xC0 + c / 64), b (0x80 + c % 64)]⟩
   else if c < 0x10000 then ⟨#[b (0xE0 + c / 4096), b (0x80 + c / 64 % 64), b (0x80 + c % 64)]⟩
   else ⟨#[b (0xF0 + c / 262144), b (0x80 + c / 4096 % 64), b (0x80 + c / 64 % 64), b (0x80 + c % 64)]⟩) := by
  refine ⟨if Utf8.valid r then r.toNat else Utf8.runeError, ?_, rfl⟩
  by_cases hv : Utf8.valid r = true
  ·rw [if_pos hv]; omega
  ·rw [if_neg hv]; simp [Utf8.runeError]
 rw [he]
 have hlast : 128 ≤ (UInt8.ofNat (128 + c % 64)).toNat := by rw [UInt8.toNat_ofNat']; omega
 by_cases h2 : c < 0x800
 ·simp only [show ¬ c < 0x80 from by omega, h2, if_true, if_false]
  exact .inl ⟨_, _, rfl, hlast⟩
 ·by_cases h3 : c < 0x10000
  ·simp only [show ¬ c < 0x80 from by omega, h2, h3, if_true, if_false]
   exact .inr (.inl ⟨_, _, _, rfl, hlast⟩)
  ·simp only [show ¬ c < 0x80 from by omega, h2, h3, if_false]
   exact .inr (.inr ⟨_, _, _, _, rfl, hlast⟩)

theorem indexByte_none (l : List UInt8) (z : UInt8) (h : ∀ b ∈ l, b ≠ z) : Lib.indexByte l z = -1 := by
 induction l with
 | nil => rfl
 | cons b l ih =>
  have h1 : (b == z) = false := by simpa using h b (List.mem_cons_self ..)
  have h2 := ih (fun x hx => h x (List.mem_cons_of_mem _ hx))
  simp [Lib.indexByte, h1, h2]

theorem idx_none (s : ByteArray) (z : UInt8) (hz : 128 ≤ z.toNat) (hs : ∀ b ∈ s.data.toList, b.toNat < 128) (w : World) :
  Calls Tryz.prog 55 #[.string s, .int .u8 z.toNat] w fun e w' => e = .returned (.int .i64 (-1)) ∧ w' = w := by
 refine (Tryz.strings_IndexByte s z.toNat w).mono ?_
 rintro e w' ⟨rfl, rfl⟩
 refine ⟨ret_int ?_, rfl⟩
 apply indexByte_none
 intro b hb e
 have h1 := hs b hb
 have h2 : ((z.toNat : Int)).toNat.toUInt8 = z := by simp
 rw [h2] at e
 rw [e] at h1
 omega

theorem ne_last {c : Nat} {z : UInt8} (hc : c < 128) (hz : 128 ≤ z.toNat) (h : ((c : Int) != (z.toNat : Int)) = false) : False := by
 simp at h
 omega

theorem indexRune_d (r : Int) (w : World) (h1 : 128 ≤ r) (h2 : r ≠ 65533) :
  Calls Tryz.prog 125 #[.string ⟨#[40, 41, 91, 93, 123, 125, 44, 59, 58, 61, 45, 43, 42, 60, 124, 126]⟩, .int .i32 r] w fun e w' => e = .returned (.int .i64 (-1)) ∧ Below w.heap.size w w' := by
 have h2' : (r == 65533) = false := by simp [h2]
 cases hv : Lib.validRune r with
 | false =>
  go_enter Tryz.func125, Tryz.ntmps125
  go_wp2_with (go_at_call 139; refine (Tryz.utf8_ValidRune _ _).mono ?_; rintro e w' ⟨rfl, rfl⟩)
  go_ret
  exact ⟨rfl, Below.refl _ _⟩
 | true =>
  rcases enc_facts r h1 with ⟨a, z, he, hz⟩ | ⟨a, b, z, he, hz⟩ | ⟨a, b, c, z, he, hz⟩
  ·go_enter Tryz.func125, Tryz.ntmps125
   go_wp2_with (go_at_call 139; refine (Tryz.utf8_ValidRune _ _).mono ?_; rintro e w' ⟨rfl, rfl⟩)
   go_step3
   go_wp2_with fail
   refine wp_loop_rounds 1 ?_
   rw [rounds_succ]
   go_wp2_with fail
   go_step3
   go_wp2_with fail
   go_quiet (fail)
   have HQ := hid (below_drewN (Below.refl w'.heap.size w') nq)
   generalize w'.drewN nq = wq at *
   go_wp2_with fail
   ·go_quiet ((go_at_call 55; exact Calls.quiet_of_same (idx_none _ _ hz (by decide) _)))
    go_wp2
    rw [Exit.noGoto_ret]
    go_wp2
    rw [Exit.noGoto_ret]
    go_ret
    exact ⟨rfl, below_drewN HQ.out _⟩
   ·exact (ne_last (c := 41) (z := z) (by omega) hz (by assumption)).elim
  ·go_enter Tryz.func125, Tryz.ntmps125
   go_wp2_with (go_at_call 139; refine (Tryz.utf8_ValidRune _ _).mono ?_; rintro e w' ⟨rfl, rfl⟩)
   go_step3
   go_wp2_with fail
   refine wp_loop_rounds 1 ?_
   rw [rounds_succ]
   go_wp2_with fail
   go_step3
   go_wp2_with fail
   go_quiet (fail)
   have HQ := hid (below_drewN (Below.refl w'.heap.size w') nq)
   generalize w'.drewN nq = wq at *
   go_wp2_with fail
   ·go_quiet ((go_at_call 55; exact Calls.quiet_of_same (idx_none _ _ hz (by decide) _)))
    go_wp2
    rw [Exit.noGoto_ret]
    go_wp2
    rw [Exit.noGoto_ret]
    go_ret
    exact ⟨rfl, below_drewN HQ.out _⟩
   ·exact (ne_last (c := 91) (z := z) (by omega) hz (by assumption)).elim
  ·go_enter Tryz.func125, Tryz.ntmps125
   go_wp2_with (go_at_call 139; refine (Tryz.utf8_ValidRune _ _).mono ?_; rintro e w' ⟨rfl, rfl⟩)
   go_step3
   go_wp2_with fail
   refine wp_loop_rounds 1 ?_
   rw [rounds_succ]
   go_wp2_with fail
   go_step3
   go_wp2_with fail
   go_quiet (fail)
   have HQ := hid (below_drewN (Below.refl w'.heap.size w') nq)
   generalize w'.drewN nq = wq at *
   go_wp2_with fail
   ·go_quiet ((go_at_call 55; exact Calls.quiet_of_same (idx_none _ _ hz (by decide) _)))
    go_wp2
    rw [Exit.noGoto_ret]
    go_wp2
    rw [Exit.noGoto_ret]
    go_ret
    exact ⟨rfl, below_drewN HQ.out _⟩
   ·exact (ne_last (c := 93) (z := z) (by omega) hz (by assumption)).elim

theorem sig_ascii : ∀ k (h : k < sigText.size), (sigText[k]).toNat < 128 := by decide

theorem indexRune_e (w : World) :
  Calls Tryz.prog 125 #[.string ⟨#[40, 41, 91, 93, 123, 125, 44, 59, 58, 61, 45, 43, 42, 60, 124, 126]⟩, .int .i32 65533] w fun e w' => e = .returned (.int .i64 (-1)) ∧ Below w.heap.size w w' := by
 obtain ⟨s, hs⟩ : ∃ s, s = sigText := ⟨_, rfl⟩
 have hsz : s.size = 16 := by rw [hs]; rfl
 have hall := sig_ascii
 rw [← hs] at hall
 show Calls Tryz.prog 125 #[.string sigText, .int .i32 65533] w _
 rw [← hs]
 have HA := hid hall
 have hsz1 : s.size ≤ 16 := by omega
 clear hs hall hsz
 go_enter Tryz.func125, Tryz.ntmps125
 go_wp2
 go_loopw [] (fun wr => ∃ pos : Nat, wr.heap[w.heap.size]? = some (.stringIter s pos) ∧ Below w.heap.size w wr) (fun wr => s.size - wr.iterPos w.heap.size)
 case atStart =>
  refine ⟨0, ?_, (Below.refl _ w).alloc (Nat.le_refl _) _⟩
  have := World.iter_heap w s 0
  simpa using this
 case round =>
  obtain ⟨pos, hit, hb⟩ := hrel
  by_cases hp : pos < s.size
  ·have hasc := HA.out pos hp
   have hnx : ∀ ty, (Instr.next (.pointer (some ⟨w.heap.size, 0, none⟩)) true ty).run Tryz.prog wr = _ := fun ty => Lib.run_next_ascii_at wr w.heap.size s pos ty hit hp hasc
   have hit2 := Lib.iterAt_heap wr w.heap.size s pos (pos + 1) hit
   have hb2 := Lib.below_iterAt hb (Nat.le_refl _) s (pos + 1)
   have hne : (((s[pos]).toNat : Int) == 65533) = false := by simp; omega
   go_wp2
   go_roundw
   case rel => exact ⟨pos + 1, hit2, hb2⟩
   case measure =>
    simp only [World.iterPos, hit2, hit]
    omega
  ·have hnx : ∀ ty, (Instr.next (.pointer (some ⟨w.heap.size, 0, none⟩)) true ty).run Tryz.prog wr = _ := fun ty => Lib.run_next_end_at wr w.heap.size s pos ty hit hp
   go_wp2
   go_ret
   exact ⟨rfl, hb⟩
end Lr

namespace Lr
open Go.RowKit


theorem contains_lo (r : Nat) (w : World) (h : r < 128) :
  Calls Tryz.prog 93 #[.string ⟨#[40, 41, 91, 93, 123, 125, 44, 59, 58, 61, 45, 43, 42, 60, 124, 126]⟩, .int .i32 r] w fun e w' => e = .returned (.bool (Lx.sigBytes.contains r.toUInt8)) ∧ w' = w := by
 have HC := hid (Lib.contains_iff_indexByte Lx.sigBytes r.toUInt8)
 have hr : (r : Int) < 128 := by omega
 have hw8 : IntKind.u8.wrap (r : Int) = r := by unfold IntKind.wrap; simp [IntKind.bits, IntKind.signed]; omega
 go_enter Tryz.func93, Tryz.ntmps93
 go_wp2_with (first | (go_at_call 55; refine (Tryz.strings_IndexByte _ _ _).mono ?_; rintro e w' ⟨rfl, rfl⟩) | go_in)
 go_ret
 exact ⟨ret_bool HC.out.symm, rfl⟩

theorem contains_hi (r : Int) (w : World) (h : 128 ≤ r) :
  Calls Tryz.prog 93 #[.string ⟨#[40, 41, 91, 93, 123, 125, 44, 59, 58, 61, 45, 43, 42, 60, 124, 126]⟩, .int .i32 r] w fun e w' => e = .returned (.bool false) ∧ Below w.heap.size w w' := by
 by_cases h5 : r = 65533
 ·subst h5
  go_enter Tryz.func93, Tryz.ntmps93
  go_wp2_with (go_at_call 125; refine (indexRune_e _).mono ?_; rintro e w1 ⟨rfl, hb⟩)
  go_ret
  exact ⟨rfl, hb⟩
 ·go_enter Tryz.func93, Tryz.ntmps93
  go_wp2_with (go_at_call 125; refine (indexRune_d r _ h h5).mono ?_; rintro e w1 ⟨rfl, hb⟩)
  go_ret
  exact ⟨rfl, hb⟩

def clB (c : UInt8) : Nat := if Lx.isBl c then 1 else if c.toNat = 35 then 2 else if Lx.isDig c then 3 else if Lx.isLet c then 4 else if Lx.isSg c then 5 else 0

theorem clB_blank {c : UInt8} (h : c.toNat = 9 ∨ c.toNat = 10 ∨ c.toNat = 13 ∨ c.toNat = 32) : clB c = 1 := by
 have : Lx.isBl c = true := by rcases h with h | h | h | h <;> simp [Lx.isBl, h]
 simp [clB, this]
theorem clB_hash {c : UInt8} (h : c.toNat = 35) : clB c = 2 := by
 have : Lx.isBl c = false := by simp [Lx.isBl, h]
 simp [clB, this, h]
theorem clB_dig {c : UInt8} (h : 48 ≤ c.toNat ∧ c.toNat ≤ 57) : clB c = 3 := by
 have h1 : Lx.isBl c = false := by simp [Lx.isBl]; omega
 have h2 : Lx.isDig c = true := by simp [Lx.isDig, h]
 have h3 : c.toNat ≠ 35 := by omega
 simp [clB, h1, h2, h3]
theorem clB_let {c : UInt8} (h : (97 ≤ c.toNat ∧ c.toNat ≤ 122) ∨ (65 ≤ c.toNat ∧ c.toNat ≤ 90) ∨ c.toNat = 95) : clB c = 4 := by
 have h1 : Lx.isBl c = false := by simp [Lx.isBl]; omega
 have h2 : Lx.isDig c = false := by
  cases hq : Lx.isDig c with
  | false => rfl
  | true => have := (isDig_iff c).1 hq; omega
 have h3 : c.toNat ≠ 35 := by omega
 have h4 : Lx.isLet c = true := by simp [Lx.isLet]; omega
 simp [clB, h1, h2, h3, h4]
theorem clB_other {c : UInt8} (h : c.toNat ≠ 9 ∧ c.toNat ≠ 10 ∧ c.toNat ≠ 13 ∧ c.toNat ≠ 32 ∧ c.toNat ≠ 35 ∧ c.toNat ≠ 95) (h2 : ¬ (48 ≤ c.toNat ∧ c.toNat ≤ 57)) (h3 : ¬ (97 ≤ c.toNat ∧ c.toNat ≤ 122)) (h4 : ¬ (65 ≤ c.toNat ∧ c.toNat ≤ 90)) :
  clB c = if Lx.isSg c then 5 else 0 := by
 have e1 : Lx.isBl c = false := by simp [Lx.isBl]; omega
 have e2 : Lx.isDig c = false := by
  cases hq : Lx.isDig c with
  | false => rfl
  | true => have := (isDig_iff c).1 hq; omega
 have e4 : Lx.isLet c = false := by
  cases hq : Lx.isLet c with
  | false => rfl
  | true =>
   simp [Lx.isLet] at hq
   omega
 simp [clB, e1, e2, h.2.2.2.2.1, e4]

theorem toNat_back (c : UInt8) : c.toNat.toUInt8 = c := by simp

theorem classOf_lo (c : UInt8) (w : World) (h : c.toNat < 128) :
  Calls Tryz.prog 54 #[.int .i32 c.toNat] w fun e w' => e = .returned (.int .i64 (clB c)) ∧ w' = w := by
 by_cases hb : c.toNat = 9 ∨ c.toNat = 10 ∨ c.toNat = 13 ∨ c.toNat = 32
 ·have HC := hid (clB_blank hb)
  rcases hb with hb | hb | hb | hb
  all_goals
   go_enter Tryz.func54, Tryz.ntmps54
   go_wp2
   go_ret
   exact ⟨ret_int (by rw [HC.out]; rfl), rfl⟩
 ·by_cases hh : c.toNat = 35
  ·have HC := hid (clB_hash hh)
   go_enter Tryz.func54, Tryz.ntmps54
   go_wp2
   go_ret
   exact ⟨ret_int (by rw [HC.out]; rfl), rfl⟩
  ·have e9 : ((c.toNat : Int) == 9) = false := by simp; omega
   have e10 : ((c.toNat : Int) == 10) = false := by simp; omega
   have e13 : ((c.toNat : Int) == 13) = false := by simp; omega
   have e32 : ((c.toNat : Int) == 32) = false := by simp; omega
   have e35 : ((c.toNat : Int) == 35) = false := by simp; omega
   by_cases hd : 48 ≤ c.toNat ∧ c.toNat ≤ 57
   ·have HC := hid (clB_dig hd)
    obtain ⟨d1, d2⟩ := hd
    have d1' : (48 : Int) ≤ c.toNat := by omega
    have d2' : (c.toNat : Int) ≤ 57 := by omega
    clear hb hh
    go_enter Tryz.func54, Tryz.ntmps54
    go_wp2
    go_ret
    exact ⟨ret_int (by rw [HC.out]; rfl), rfl⟩
   ·by_cases hl : (97 ≤ c.toNat ∧ c.toNat ≤ 122) ∨ (65 ≤ c.toNat ∧ c.toNat ≤ 90) ∨ c.toNat = 95
    ·have HC := hid (clB_let hl)
     clear hb hh hd
     rcases hl with ⟨d1, d2⟩ | ⟨d1, d2⟩ | d1
     all_goals
      go_enter Tryz.func54, Tryz.ntmps54
      go_wp2
      go_ret
      exact ⟨ret_int (by rw [HC.out]; rfl), rfl⟩
    ·have e95 : ((c.toNat : Int) == 95) = false := by simp; omega
     have HC := hid (clB_other (c := c) ⟨by omega, by omega, by omega, by omega, by omega, by omega⟩ hd (by omega) (by omega))
     have HT := hid (toNat_back c)
     have hr : c.toNat < 48 ∨ (57 < c.toNat ∧ c.toNat < 65) ∨ (90 < c.toNat ∧ c.toNat < 97) ∨ 122 < c.toNat := by omega
     clear hb hh hd hl
     cases hs : Lx.isSg c with
     | true =>
      have hs2 : Lx.sigBytes.contains c.toNat.toUInt8 = true := by rw [HT.out]; exact hs
      have HS := hid hs
      clear hs
      rcases hr with hr | ⟨hr, hr2⟩ | ⟨hr, hr2⟩ | hr
      all_goals
       go_enter Tryz.func54, Tryz.ntmps54
       go_wp2_with (go_at_call 93; refine (contains_lo c.toNat _ h).mono ?_; rintro e w' ⟨rfl, rfl⟩; rw [hs2])
       go_ret
       exact ⟨ret_int (by rw [HC.out, HS.out]; rfl), rfl⟩
     | false =>
      have hs2 : Lx.sigBytes.contains c.toNat.toUInt8 = false := by rw [HT.out]; exact hs
      have HS := hid hs
      clear hs
      rcases hr with hr | ⟨hr, hr2⟩ | ⟨hr, hr2⟩ | hr
      all_goals
       go_enter Tryz.func54, Tryz.ntmps54
       go_wp2_with (go_at_call 93; refine (contains_lo c.toNat _ h).mono ?_; rintro e w' ⟨rfl, rfl⟩; rw [hs2])
       go_ret
       exact ⟨ret_int (by rw [HC.out, HS.out]; rfl), rfl⟩

theorem classOf_hi (r : Int) (w : World) (h : 128 ≤ r) :
  Calls Tryz.prog 54 #[.int .i32 r] w fun e w' => e = .returned (.int .i64 0) ∧ Below w.heap.size w w' := by
 have e9 : (r == 9) = false := by simp; omega
 have e10 : (r == 10) = false := by simp; omega
 have e13 : (r == 13) = false := by simp; omega
 have e32 : (r == 32) = false := by simp; omega
 have e35 : (r == 35) = false := by simp; omega
 have e95 : (r == 95) = false := by simp; omega
 go_enter Tryz.func54, Tryz.ntmps54
 go_wp2_with (go_at_call 93; refine (contains_hi r _ h).mono ?_; rintro e w1 ⟨rfl, hb⟩)
 go_ret
 exact ⟨rfl, hb⟩
end Lr

namespace Lr
open Go.RowKit

theorem lisWord_any (s : ByteArray) (w : World) :
  Calls Tryz.prog 97 #[.string s] w fun e w' => e = .returned (.bool (Lx.isWd s.data.toList)) ∧ w' = w := by
 go_enter Tryz.func97, Tryz.ntmps97
 go_wp2
 all_goals
  go_ret
  refine ⟨ret_bool ?_, rfl⟩
  first
   | (simp only [Lx.isWd, Lx.wordList, toList_data, List.contains_cons, List.contains_nil, Bool.or_false, Bool.or_true, Bool.true_or, *]; done)
   | (exfalso; simp_all; done)

theorem clone_any (s : ByteArray) (w : World) (hs : s.size ≤ 3000) :
  Calls Tryz.prog 129 #[.string s] w fun e w' => e = .returned (.string s) ∧ Below w.heap.size w w' := by
 go_enter Tryz.func129, Tryz.ntmps129
 go_wp2_with (go_at_call 147; refine (Tryz.stringslite_Clone _ _ (by omega)).mono ?_; rintro e w1 ⟨rfl, hb⟩)
 go_ret
 exact ⟨rfl, hb⟩

theorem four_cells {w w2 : World} {a0 a1 a2 a3 : Value} {e1 : TypeId} (hb : Below (w.alloc (.cells #[a0, a1, a2, a3] e1)).heap.size (w.alloc (.cells #[a0, a1, a2, a3] e1)) w2) :
  (w2.cell? ⟨w.heap.size, 0, none⟩ = some a0 ∧ w2.cell? ⟨w.heap.size, 1, none⟩ = some a1 ∧ w2.cell? ⟨w.heap.size, 2, none⟩ = some a2 ∧ w2.cell? ⟨w.heap.size, 3, none⟩ = some a3) ∧
  (w2.frozen? ⟨w.heap.size, 0, none⟩ = false ∧ w2.frozen? ⟨w.heap.size, 1, none⟩ = false ∧ w2.frozen? ⟨w.heap.size, 2, none⟩ = false ∧ w2.frozen? ⟨w.heap.size, 3, none⟩ = false) := by
 obtain ⟨hc, hf⟩ := bcell hb
 refine ⟨⟨(hc _ _ (by simp)).trans (by simp), (hc _ _ (by simp)).trans (by simp), (hc _ _ (by simp)).trans (by simp), (hc _ _ (by simp)).trans (by simp)⟩,
  ⟨(hf _ _ (by simp)).trans (by simp), (hf _ _ (by simp)).trans (by simp), (hf _ _ (by simp)).trans (by simp), (hf _ _ (by simp)).trans (by simp)⟩⟩
theorem below_one {w w2 : World} {o : Obj} (hb : Below (w.alloc o).heap.size (w.alloc o) w2) : Below w.heap.size w w2 :=
 ((Below.refl _ _).alloc (Nat.le_refl _) _).trans (hb.mono (by simp))
theorem below_four {w w2 : World} (hb : Below w.heap.size w w2) (v0 v1 v2 v3 : Value) :
  Below w.heap.size w ((((w2.setCell ⟨w.heap.size, 0, none⟩ v0).setCell ⟨w.heap.size, 1, none⟩ v1).setCell ⟨w.heap.size, 2, none⟩ v2).setCell ⟨w.heap.size, 3, none⟩ v3) :=
 (((hb.setCell (Nat.le_refl _) _).setCell (Nat.le_refl _) _).setCell (Nat.le_refl _) _).setCell (Nat.le_refl _) _

theorem textToken_any (kd : Int) (s : ByteArray) (w : World) (hs : s.size ≤ 3000) :
  Calls Tryz.prog 98 #[.int .i64 kd, .string s] w fun e w' => e = .returned (.agg #[.int .i64 kd, .int .i64 0, .string s, .int .i64 0]) ∧ Below w.heap.size w w' := by
 go_enter Tryz.func98, Tryz.ntmps98
 go_wp2_with (go_at_call 129; refine (clone_any _ _ hs).mono ?_; rintro e w1 ⟨rfl, hb⟩; obtain ⟨⟨c0, c1, c2, c3⟩, f0, f1, f2, f3⟩ := four_cells hb; have HB := hid (below_one hb); clear hb)
 refine bodyPost_ret (v := .agg #[.int .i64 kd, .int .i64 0, .string s, .int .i64 0]) (by simp [results, Tryz.results98, go_sem, c0, c1, c2, c3]) rfl ⟨rfl, below_four HB.out _ _ _ _⟩
end Lr
end Go.Proofs.YtoajnlhegallpaaGreatDoor
