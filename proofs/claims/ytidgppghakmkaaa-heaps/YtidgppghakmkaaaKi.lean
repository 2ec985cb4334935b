/-
  A round of the law, whatever is done; the loop.
-/
import Derived.Test.YtidgppghakmkaaaKe01
import Derived.Test.YtidgppghakmkaaaKe2a
import Derived.Test.YtidgppghakmkaaaKe2b
import Derived.Test.YtidgppghakmkaaaKe2c
import Derived.Test.YtidgppghakmkaaaKe3a
import Derived.Test.YtidgppghakmkaaaKe3b
import Derived.Test.YtidgppghakmkaaaKe3c
import Derived.Test.YtidgppghakmkaaaKe4
import Derived.Test.YtidgppghakmkaaaKe5a
import Derived.Test.YtidgppghakmkaaaKe5p
import Derived.Test.YtidgppghakmkaaaKe6
import Derived.Test.YtidgppghakmkaaaKe7
set_option linter.unusedVariables false
set_option linter.unusedSimpArgs false
namespace Go.Proofs.Ytidgppghakmkaaa
open scoped Classical
open Go.RowKit Go.Shelf Hp Go.Sort
attribute [local simp] wide_fn

set_option maxRecDepth 100000 in
set_option maxHeartbeats 8000000 in
theorem roundH_exit {w wr : World} {hb g N rb ca cb ln lc i : Nat} {la : Option Addr} (F : Nat → Value) (Q0 : Exit → Act → World → Prop) (J : Act → World → Prop) (hLI : LI w wr hb g N rb ca cb) (hi1 : i ≤ ln) (hi3 : i ≤ 300) (hx : ¬ (i < ln ∧ i < 300)) (hexit : ∀ a' w', WI w hb g N rb ca cb la ln lc a' w' → Q0 (.exit 0) a' w') :
    Code.wp Try.prog ((Try.f3.body.bind firstLoop).getD .skip) (Exit.then J Q0) ⟨#[F 0, .slice la ln lc, F 2, F 3, F 4, .pointer (some ⟨hb, 0, none⟩), F 6, .pointer (some ⟨rb, 0, none⟩), .slice (some ⟨ca, 0, none⟩) 6 6, .slice (some ⟨cb, 0, none⟩) 6 6, .int .i64 (i : Nat), F 11, F 12, F 13, F 14, F 15, F 16, F 17, F 18, F 19, F 20, F 21, F 22, F 23, F 24, F 25, F 26, F 27, F 28, F 29, F 30, F 31, F 32, F 33, F 34, F 35, F 36, F 37, F 38, F 39, F 40, F 41, F 42, F 43, F 44, F 45, F 46, F 47, F 48, F 49, F 50, F 51, F 52, F 53, F 54, F 55, F 56, F 57, F 58, F 59, F 60, F 61, F 62, F 63, F 64, F 65, F 66, F 67, F 68, F 69, F 70, F 71, F 72, F 73, F 74, F 75, F 76, F 77, F 78, F 79, F 80, F 81, F 82, F 83, F 84, F 85, F 86, F 87, F 88, F 89, F 90, F 91, F 92, F 93, F 94, F 95, F 96, F 97, F 98, F 99, F 100, F 101, F 102, F 103, F 104, F 105, F 106, F 107, F 108, F 109, F 110, F 111, F 112, F 113, F 114, F 115, F 116, F 117, F 118, F 119, F 120, F 121, F 122, F 123, F 124, F 125, F 126, F 127, F 128, F 129, F 130, F 131, F 132, F 133, F 134, F 135, F 136, F 137, F 138, F 139, F 140, F 141, F 142, F 143, F 144, F 145, F 146, F 147, F 148, F 149, F 150, F 151, F 152, F 153, F 154, F 155, F 156, F 157, F 158, F 159, F 160, F 161, F 162, F 163, F 164, F 165, F 166, F 167, F 168, F 169, F 170, F 171, F 172, F 173, F 174, F 175, F 176, F 177, F 178, F 179, F 180, F 181, F 182, F 183, F 184, F 185, F 186, F 187, F 188, F 189, F 190, F 191, F 192, F 193, F 194, F 195, F 196, F 197, F 198, F 199, F 200, F 201, F 202, F 203, F 204, F 205, F 206, F 207, F 208, F 209, F 210, F 211, F 212, F 213, F 214, F 215, F 216, F 217, F 218, F 219, F 220, F 221, F 222, F 223, F 224, F 225, F 226, F 227, F 228, F 229, F 230, F 231, F 232, F 233, F 234, F 235, F 236, F 237, F 238, F 239, F 240, F 241, F 242, F 243, F 244, F 245, F 246, F 247, F 248, F 249, F 250, F 251, F 252, F 253, F 254, F 255, F 256, F 257, F 258, F 259, F 260, F 261, F 262, F 263, F 264, F 265, F 266, F 267, F 268, F 269, F 270, F 271, F 272, F 273, F 274, F 275, F 276, F 277, F 278, F 279, F 280, F 281, F 282, F 283, F 284, F 285, F 286, F 287, F 288, F 289, F 290, F 291, F 292, F 293, F 294, F 295, F 296], []⟩ wr := by
  by_cases h1 : i < ln
  · have e1 : (i : Int) < (ln : Int) := by omega
    have e2 : ¬ ((i : Int) < 300) := by omega
    clear hx h1
    conv => arg 2; whnf
    go_wp2
    exact ⟨i, ⟨rfl, rfl, rfl, rfl, rfl, rfl, rfl, rfl⟩, hi1, hi3, hLI⟩
  · have e1 : ¬ ((i : Int) < (ln : Int)) := by omega
    clear hx h1
    conv => arg 2; whnf
    go_wp2
    exact ⟨i, ⟨rfl, rfl, rfl, rfl, rfl, rfl, rfl, rfl⟩, hi1, hi3, hLI⟩
theorem roundH {w : World} {hb g N rb ca cb ln lc : Nat} {la : Option Addr} (harg : Arg5 w la ln) (Q0 : Exit → Act → World → Prop) (hexit : ∀ a' w', WI w hb g N rb ca cb la ln lc a' w' → Q0 (.exit 0) a' w') (a : Act) (wr : World) (hI : WI w hb g N rb ca cb la ln lc a wr) :
    Code.wp Try.prog ((Try.f3.body.bind firstLoop).getD .skip) (Exit.then (fun a' w' => WI w hb g N rb ca cb la ln lc a' w' ∧ Wmu a' w' < Wmu a wr) Q0) a wr := by
  obtain ⟨i, hfr, hi1, hi3, hLI⟩ := hI
  have hmu : Wmu a wr = 300 - i := by simp [Wmu, Array.getD_eq_getD_getElem?, hfr.e10, intOf]
  rw [hmu]
  clear hmu
  obtain ⟨F, rfl, hF⟩ := act_open hfr.sz hfr.df
  have f1 := hF 1 _ hfr.e1
  have f5 := hF 5 _ hfr.e5
  have f7 := hF 7 _ hfr.e7
  have f8 := hF 8 _ hfr.e8
  have f9 := hF 9 _ hfr.e9
  have f10 := hF 10 _ hfr.e10
  rw [f1, f5, f7, f8, f9, f10]
  clear hF hfr f1 f5 f7 f8 f9 f10
  by_cases h : i < ln ∧ i < 300
  · obtain ⟨h1, h2⟩ := h
    obtain ⟨lb, loff, K, R, A, B, C, rfl, k0, k1, k2, k3, k4⟩ := harg i h1
    obtain ⟨T, f, bs, lv, r, hLS⟩ := hLI
    have hlbl : lb < w.heap.size := block_lt_of_cell k0
    have hck : ∀ {o : Nat} {v : Value}, w.cell? ⟨lb, o, none⟩ = some v → wr.cell? ⟨lb, o, none⟩ = some v := fun {o v} h => (hLS.ch.cell (p := ⟨lb, o, none⟩) hlbl (fun h => h)).trans h
    replace k0 := hck k0
    replace k1 := hck k1
    replace k2 := hck k2
    replace k3 := hck k3
    replace k4 := hck k4
    clear hck
    have hm6 : ∀ x : Int, (modI x 6).toNat < 6 := fun x => by have := modI_pos x 6 (by decide); omega
    have hrv : ∀ x : Int, (r (modI x 6).toNat).ptr = false ∨ ∃ kk t, T[kk]? = some t ∧ r (modI x 6).toNat = ⟨true, (ad T kk : Nat)⟩ := fun x => by
      rcases hp : (r (modI x 6).toNat).ptr with _ | _
      · exact .inl rfl
      · obtain ⟨kk, t, ht, hn⟩ := hLS.rv _ (hm6 x) hp
        refine .inr ⟨kk, t, ht, ?_⟩
        rcases hq : r (modI x 6).toNat with ⟨p, n⟩
        rw [hq] at hp hn
        cases hp
        cases hn
        rfl
    have hb8 := modI_pos K 8 (by decide)
    have hc : modI K 8 = 0 ∨ modI K 8 = 1 ∨ modI K 8 = 2 ∨ modI K 8 = 3 ∨ modI K 8 = 4 ∨ modI K 8 = 5 ∨ modI K 8 = 6 ∨ modI K 8 = 7 := by omega
    rcases hc with e | e | e | e | e | e | e | e
    · by_cases hf : used (mkT T r N (modI C 9).toNat) + (modI C 9).toNat + 1 ≤ N
      · exact case0fit F Q0 hLS h1 h2 k0 k1 k2 k3 k4 e hf
      · exact case0full F Q0 hLS h1 h2 k0 k1 k2 k3 k4 e hf
    · by_cases hf : used (mkT T r N (modI C 9).toNat) + (modI C 9).toNat + 1 ≤ N
      · exact case1fit F Q0 hLS h1 h2 k0 k1 k2 k3 k4 e hf
      · exact case1full F Q0 hLS h1 h2 k0 k1 k2 k3 k4 e hf
    · rcases hrv R with hp | ⟨kk, t, ht, hpt⟩
      · exact case2a F Q0 hLS h1 h2 k0 k1 k2 k3 k4 e hp
      · by_cases hl : t.l.length = 0
        · exact case2b F Q0 hLS h1 h2 k0 k1 k2 k3 k4 e ht hpt hl
        · obtain ⟨jn, hjn, hjl⟩ := mod_nat C t.l.length (by omega)
          exact case2c F Q0 hLS h1 h2 k0 k1 k2 k3 k4 e ht hpt (by omega) hjn hjl
    · rcases hrv R with hp | ⟨kk, t, ht, hpt⟩
      · exact case3a F Q0 hLS h1 h2 k0 k1 k2 k3 k4 e hp
      · by_cases hl : t.l.length = 0
        · exact case3b F Q0 hLS h1 h2 k0 k1 k2 k3 k4 e ht hpt hl
        · obtain ⟨jn, hjn, hjl⟩ := mod_nat C t.l.length (by omega)
          exact case3c F Q0 hLS h1 h2 k0 k1 k2 k3 k4 e ht hpt (by omega) hjn hjl
    · exact case4 F Q0 hLS h1 h2 k0 k1 k2 k3 k4 e
    · rcases hrv A with hp | ⟨kk, t, ht, hpt⟩
      · exact case5a F Q0 hLS h1 h2 k0 k1 k2 k3 k4 e hp
      · exact case5p F Q0 hLS h1 h2 k0 k1 k2 k3 k4 e ht hpt
    · exact case6 F Q0 hLS h1 h2 k0 k1 k2 k3 k4 e
    · by_cases hgood : (0 ≤ A ∧ A ≤ 4) ∧ (0 ≤ B ∧ B ≤ 65535) ∧ (0 ≤ C ∧ C ≤ 1000000)
      · obtain ⟨hA, hB, hC0, hC1⟩ := hgood
        obtain ⟨qn, hCn⟩ : ∃ qn : Nat, C = (qn : Int) := ⟨C.toNat, by omega⟩
        by_cases hf : used (mkT T r N qn) + qn + 1 ≤ N
        · exact case7fit F Q0 hLS h1 h2 k0 k1 k2 k3 k4 e hCn hA hB (by omega) hf
        · exact case7full F Q0 hLS h1 h2 k0 k1 k2 k3 k4 e hCn hA hB (by omega) hf
      · exact case7bad F Q0 hLS h1 h2 k0 k1 k2 k3 k4 e hgood
  · exact roundH_exit F Q0 _ hLI hi1 hi3 h hexit
theorem loopH {w : World} {hb g N rb ca cb ln lc : Nat} {la : Option Addr} (harg : Arg5 w la ln) (Q0 : Exit → Act → World → Prop) (a : Act) (wr : World) (hI : WI w hb g N rb ca cb la ln lc a wr) (hexit : ∀ a' w', WI w hb g N rb ca cb la ln lc a' w' → Q0 (.exit 0) a' w') :
    Code.wp Try.prog (Code.loop ((Try.f3.body.bind firstLoop).getD .skip)) Q0 a wr := wp_loop (WI w hb g N rb ca cb la ln lc) Wmu hI (fun a w h => roundH harg Q0 hexit a w h)
end Go.Proofs.Ytidgppghakmkaaa
