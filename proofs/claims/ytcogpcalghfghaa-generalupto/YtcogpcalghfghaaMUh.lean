/-
  slices.Repeat of one name; the program's bags: list.
  The program's bags: list.
-/
import Derived.Test.YtcogpcalghfghaaUg
import Derived.Laws.CopyRow
import Derived.Shelf.Spec.SlicesInsert
set_option linter.unusedVariables false
set_option linter.unusedSimpArgs false
namespace Go.Proofs.Ytcogpcalghfghaa
open Go.RowKit
open Un (Bag)

/-- A row of which the first so many hold a name. -/
def rRow (x : List UInt8) (m n : Nat) : Array Value := (List.replicate m (str x) ++ List.replicate (n - m) (str [])).toArray
theorem rRow_size (x : List UInt8) {m n : Nat} (h : m ≤ n) : (rRow x m n).size = n := by simp [rRow]; omega
theorem rRow_made (x : List UInt8) (n : Nat) : madeCells (#[str []] : Array Value) n = rRow x 0 n := by
  apply Array.ext_getElem?
  intro i
  by_cases h : i < n
  · simp [madeCells, h, Nat.mod_one, rRow]
  · simp [madeCells, h, rRow]
theorem rRow_at (x : List UInt8) {m n i : Nat} (h : i < m) : (rRow x m n)[i]? = some (str x) := by
  unfold rRow
  rw [List.getElem?_toArray, List.getElem?_append_left (by simp; exact h)]
  simp [h]
theorem rRow_copy (x : List UInt8) {m n k : Nat} (h : m + k ≤ n) : ((rRow x m n).toList.take m ++ List.replicate k (str x) ++ (rRow x m n).toList.drop (m + (List.replicate k (str x)).length)).toArray = rRow x (m + k) n := by
  unfold rRow
  congr 1
  simp only [List.length_replicate]
  rw [List.take_append_of_le_length (by simp), List.take_of_length_le (by simp), List.drop_append, List.drop_eq_nil_of_le (by simp), List.nil_append, List.length_replicate, List.drop_replicate, List.replicate_append_replicate]
  congr 2
  omega
theorem rRow_full (x : List UInt8) (n : Nat) : (rRow x n n).toList = strs (List.replicate n x) := by simp [rRow, strs]
/-- The row in memory: what was filled. -/
def Rp (w wr : World) (g : Nat) (x : List UInt8) (m n : Nat) : Prop := wr.heap[g]? = some (.cells (rRow x m n) 9 (0, 0)) ∧ w.heap.size ≤ g ∧ Ch (fun _ => False) w wr
theorem Rp.copy {w wr W : World} {g : Nat} {x : List UInt8} {m n k : Nat} (h : Rp w wr g x m n) (hW : Ch (fun _ => False) wr W) (hk : m + k ≤ n) (a : Addr) (hsrc : ∀ j, j < k → W.cell? (a.add j) = some (str x)) (dl sl dCap sCap : Nat) (hl : k = Nat.min sl dl) :
    ∃ w', (Builtin.copy_ #[24, 24] 3 #[.slice (some ⟨g, m, none⟩) dl dCap, .slice (some a) sl sCap]).run Try.prog W = .ok (goInt k) w' ∧ Rp w w' g x (m + k) n := by
  obtain ⟨h1, h2, h3⟩ := h
  have hg := (Array.getElem?_eq_some_iff.1 h1).1
  have hb : W.heap[g]? = some (.cells (rRow x m n) 9 (0, 0)) := (hW.same g hg (fun h => h)).trans h1
  have hr := run_copy_row (P := Try.prog) W 24 24 3 9 g m dl dCap a sl sCap (rRow x m n) 9 (List.replicate k (str x)) Try.underlying24 (by
    obtain ⟨i, hi, hzz⟩ := Option.map_eq_some_iff.1 Try.info9
    simp only [Prod.mk.injEq] at hzz
    rw [hi]
    simp [hzz.2.1]) hb (by simpa using hl) (fun j v hj => by
    have hj2 : j < k := by simpa using (List.getElem?_eq_some_iff.1 hj).1
    have : v = str x := by
      rw [List.getElem?_replicate, if_pos hj2] at hj
      exact (Option.some.inj hj).symm
    rw [this]
    exact hsrc j hj2) (by rw [rRow_size x (by omega)]; simpa using hk) (fun v hv => by rw [List.eq_of_mem_replicate hv]; rfl)
  rw [rRow_copy x hk, List.length_replicate] at hr
  refine ⟨_, hr, ?_, h2, ?_⟩
  · exact setRow_heap W g _ _ 9 _ hb
  · have hc : Ch (fun q => q = g) W (W.setRow g (rRow x (m + k) n)) := ⟨by simp [World.setRow], fun q hq hne => by
      have : g ≠ q := fun e => hne e.symm
      simp [World.setRow, Array.getElem?_modify, this], rfl, rfl⟩
    exact (h3.trans hW (fun _ h => h.elim)).trans hc (fun q hq => .inr (by omega))

set_option maxRecDepth 100000 in
set_option maxHeartbeats 8000000 in
theorem Repeat_any (w : World) (p n : Nat) (x : List UInt8) (hp : w.cell? ⟨p, 0, none⟩ = some (str x)) (h1 : 1 ≤ n) (hn : n < 1000000000) :
    Calls Try.prog 41 #[.slice (some ⟨p, 0, none⟩) 1 1, .int .i64 (n : Nat)] w fun e w' => ∃ v, e = .returned v ∧ Fresh w w' v (List.replicate n x) := by
  obtain ⟨i9, hi9, hzz⟩ := Option.map_eq_some_iff.1 Try.info9
  simp only [Prod.mk.injEq] at hzz
  obtain ⟨hz9, hs9, hb9⟩ := hzz
  have hmk := run_make (P := Try.prog) w 24 9 i9 _ Try.underlying24 hi9 hz9 .i64 .i64 n n (by omega) (Int.le_refl _) (by rw [hb9]; omega) (by omega)
  rw [hs9] at hmk
  simp only [Int.toNat_natCast, Nat.mul_one] at hmk
  rw [show (Value.string ⟨#[]⟩).cells = #[str []] from rfl, rRow_made x] at hmk
  clear hi9 hz9 hs9 hb9
  have HM := Try.bits_Mul 1 n (by omega) (by omega) w
  rw [show 1 * n / 18446744073709551616 = 0 by omega, show 1 * n % 18446744073709551616 = n by omega] at HM
  have w1 : IntKind.u64.wrap (n : Int) = n := by simp [IntKind.wrap, IntKind.bits, IntKind.signed]; omega
  have w2 : IntKind.i64.wrap (n : Int) = n := IntWalk.i64_in _ (by omega)
  have hn0 : ¬ (n : Int) < 0 := by omega
  have hn1 : ¬ (9223372036854775807 : Int) < (n : Int) := by omega
  have hR0 : Hid (Rp w (w.alloc (.cells (rRow x 0 n) 9)) w.heap.size x 0 n) := ⟨World.alloc_heap_new w _, Nat.le_refl _, al_ch w _⟩
  have hpA : Hid ((w.alloc (.cells (rRow x 0 n) 9)).cell? ⟨p, 0, none⟩ = some (str x)) := cell_ch (al_ch w _) hp (fun h => h)
  go_enter Try.func41, Try.ntmps41
  go_upto_region 7 with (go_at_call 52; refine HM.mono ?_; clear HM; rintro e w3 ⟨rfl, hw3⟩; obtain rfl := hw3.symm)
  obtain ⟨wc, hcp, hR1⟩ := hR0.out.copy (Ch.refl (fun _ => False) _) (k := 1) (by omega) ⟨p, 0, none⟩ (fun j hj => by
    have : j = 0 := by omega
    subst this
    exact hpA.out) n 1 n 1 (by show 1 = min 1 n; omega)
  replace hR1 := hid hR1
  clear hmk hR0 hpA hp
  generalize w.heap.size = g at hR1 hcp ⊢
  go_upto_region 8 with (at_builtin; go_must (refine wpList_copy_runI _ rfl (.tmp 31) (.tmp 32) 24 24 rfl _ _ rfl rfl hcp ?_))
  clear hcp
  go_loopg [8] n (fun q v8 wr => ∃ m : Nat, v8 = .int .i64 (m : Nat) ∧ 1 ≤ m ∧ m ≤ n ∧ q = n + 1 - m ∧ Hid (Rp w wr g x m n))
  case atStart => exact ⟨1, rfl, by omega, by omega, by omega, hR1⟩
  case round =>
    clear hR1
    obtain ⟨m, rfl, hm1, hm, rfl, hR⟩ := hrel
    by_cases e : m < n
    · have m0 : (0 : Int) ≤ m := by omega
      have m1 : (m : Int) < (n : Int) := by omega
      have m2 : (m : Int) ≤ (n : Int) := by omega
      obtain ⟨k, hk⟩ : ∃ k, k = min m (n - m) := ⟨_, rfl⟩
      have k1 : 1 ≤ k := by omega
      have k2 : k ≤ m := by omega
      have k3 : m + k ≤ n := by omega
      replace hk := hid hk
      have hsrc : ∀ j, j < k → wr.drew.cell? ((⟨g, 0, none⟩ : Addr).add j) = some (str x) := fun j hj => by
        rw [add_cell]
        show wr.cell? _ = _
        unfold World.cell?
        rw [hR.out.1]
        exact rRow_at x (show j < m by omega)
      have hwm : IntKind.i64.wrap ((m : Int) + (k : Int)) = ((m + k : Nat) : Int) := by rw [IntWalk.i64_in _ (by omega)]; omega
      obtain ⟨w', hr, hR2⟩ := hR.out.copy (Ch.drew (fun _ => False) wr) (k := k) (by omega) ⟨g, 0, none⟩ hsrc (n - m) m (n - m) n hk.out
      replace hR2 := hid hR2
      clear hsrc
      go_upto_region 9 with (fail)
      go_region_law (refine step_copy_runI rfl (.tmp 41) (.tmp 44) 24 24 rfl (.slice (some ⟨g, m, none⟩) (n - m) (n - m)) (.slice (some ⟨g, 0, none⟩) m n) (by simp [Act.eval, Act.put] <;> omega) (by simp [Act.eval, Act.put] <;> omega) hr ?_)
      all_goals
        go_wp2
        go_roundg (n + 1 - (m + k))
        case measure => omega
        case rel => exact ⟨m + k, by simp, by omega, by omega, rfl, hR2⟩
    · obtain rfl : m = n := by omega
      have m1 : ¬ (m : Int) < (m : Int) := by omega
      go_wp2
      go_ret
      obtain ⟨r1, r2, r3⟩ := hR.out
      refine ⟨_, rfl, ⟨by simp [strs], .inr ⟨g, m, _, by simp, Nat.zero_le _, r1, by simp, by unfold maxLen; omega, by rw [rRow_size x (Nat.le_refl _)]; omega, ?_⟩⟩, r3, fun k hk => by cases hk; exact r2⟩
      rw [← rRow_full, List.take_of_length_le]
      simp [rRow]
end Go.Proofs.Ytcogpcalghfghaa

namespace Go.Proofs.Ytcogpcalghfghaa
open Go.RowKit
open Un (Bag)

theorem flat_take {b : Bag} {i : Nat} {s : Un.Nm × Nat} (h : b[i]? = some s) : Un.flat (b.take (i + 1)) = Un.flat (b.take i) ++ List.replicate s.2 s.1 := by
  rw [List.take_add_one, h]
  simp [Un.flat]
theorem flat_take_len : ∀ (b : Bag) (i : Nat), (Un.flat (b.take i)).length ≤ (Un.flat b).length := by
  intro b
  induction b with
  | nil => intro i; simp
  | cons s b ih =>
    intro i
    cases i with
    | zero => simp [Un.flat]
    | succ i =>
      have := ih i
      rw [List.take_succ_cons]
      show (List.replicate s.2 s.1 ++ Un.flat (b.take i)).length ≤ (List.replicate s.2 s.1 ++ Un.flat b).length
      rw [List.length_append, List.length_append]
      omega
set_option maxRecDepth 100000 in
set_option maxHeartbeats 8000000 in
theorem list_any (w : World) (v : Value) (b : Bag) (hv : BagV w v b) (hb : Un.BagOK b) (hn : b.length < 1000000000) (hz : (Un.flat b).length < 1000000000) :
    Calls Try.prog 32 #[v] w fun e w' => ∃ v', e = .returned v' ∧ Fresh w w' v' (Un.flat b) := by
  obtain ⟨a, c, rfl⟩ := hv.sl
  replace hv := hid hv
  replace hb := hid hb
  have hf0 : Hid (Fresh w w (.slice none 0 0) (Un.flat (b.take 0))) := by
    have : Un.flat (b.take 0) = [] := by simp [Un.flat]
    unfold Hid
    rw [this]
    exact Fresh.nil w
  go_enter Try.func32, Try.ntmps32
  go_wp2
  go_loopg [3, 8] (b.length + 1) (fun q v3 v8 wr => ∃ i : Nat, v8 = .int .i64 (i : Nat) ∧ i ≤ b.length ∧ q = b.length + 1 - i ∧ Hid (Fresh w wr v3 (Un.flat (b.take i))))
  case atStart => exact ⟨0, rfl, by omega, by omega, hf0⟩
  case round =>
    clear hf0
    obtain ⟨i, rfl, hi, rfl, hF⟩ := hrel
    by_cases e : i < b.length
    · have i0 : (0 : Int) ≤ i := by omega
      have i1 : (i : Int) < (b.length : Int) := by omega
      obtain ⟨_, g, k, hsa⟩ := hv.out.some (by omega)
      subst hsa
      obtain ⟨s, hs⟩ : ∃ s, b[i]? = some s := ⟨b[i], by simp⟩
      obtain ⟨c0, c1⟩ := (hv.out.keep hF.out.2.1 (fun _ _ h => h)).at hs
      have hwi : IntKind.i64.wrap ((i : Int) + 1) = (i : Int) + 1 := IntWalk.i64_in _ (by omega)
      have hnext := hid (flat_take hs)
      have hs1 := hb.out.2 s (List.mem_of_getElem? hs)
      have hlen : (Un.flat (b.take i)).length + s.2 < 1000000000 := by
        have := flat_take_len b (i + 1)
        rw [hnext.out, List.length_append, List.length_replicate] at this
        omega
      replace hs := hid hs
      go_upto_region 5 with (fail)
      clear c0 c1
      have hbx := World.alloc_heap_new wr (.cells #[str s.1, .int .i64 (s.2 : Nat)] 99)
      have x0 : (wr.alloc (.cells #[str s.1, .int .i64 (s.2 : Nat)] 99)).cell? ⟨wr.heap.size, 0, none⟩ = some (str s.1) := by unfold World.cell?; rw [hbx]; rfl
      have x1 : (wr.alloc (.cells #[str s.1, .int .i64 (s.2 : Nat)] 99)).cell? ⟨wr.heap.size, 1, none⟩ = some (.int .i64 (s.2 : Nat)) := by unfold World.cell?; rw [hbx]; rfl
      have hca := hid (al_ch wr (.cells #[str s.1, .int .i64 (s.2 : Nat)] 99))
      generalize wr.alloc (.cells #[str s.1, .int .i64 (s.2 : Nat)] 99) = W at *
      have x2 := cell_ch (al_ch W (.cells #[str s.1] 9)) x0 (fun h => h)
      have x3 := cell_ch (al_ch W (.cells #[str s.1] 9)) x1 (fun h => h)
      have hcb := hid (hca.out.trans (al_ch W (.cells #[str s.1] 9)) (fun _ h => h.elim))
      have hbo : (W.alloc (.cells #[str s.1] 9)).cell? ⟨W.heap.size, 0, none⟩ = some (str s.1) := by
        have := World.alloc_heap_new W (.cells #[str s.1] 9)
        unfold World.cell?
        rw [this]
        rfl
      have HR := Repeat_any (W.alloc (.cells #[str s.1] 9)) W.heap.size s.2 s.1 hbo hs1 (by omega)
      clear hbx hbo
      go_wp2_with (first
        | (go_at_call 41; refine HR.mono ?_; clear HR; rintro e w3 ⟨u, rfl, hu⟩; have hF3 := hid (hF.out.quiet (hcb.out.trans hu.2.1 (fun _ h => h.elim))); obtain ⟨ua, uc, hus, _⟩ := id hu.sv; subst hus; have hsv := hu.sv; rw [List.length_replicate] at hsv; replace hsv := hid hsv; replace hu := hid hu)
        | (at_builtin; go_must (refine list_append_sv rfl (.tmp 12) (.tmp 18) rfl (l := List.replicate s.2 s.1) rfl rfl hF3.out.1 hsv.out (by simp <;> omega) ?_); intro v' w4 hrow hgrow hblk))
      have hF4 := hid (hF3.out.more hrow hgrow hblk)
      go_roundg (b.length - i)
      case measure => omega
      case rel => exact ⟨i + 1, by simp, by omega, by omega, hid (by rw [hnext.out]; exact hF4.out)⟩
    · obtain rfl : i = b.length := by omega
      have i1 : ¬ (b.length : Int) < (b.length : Int) := by omega
      rw [List.take_length] at hF
      obtain ⟨va, vc, hv3, _⟩ := row_slice hF.out.1
      subst hv3
      go_wp2
      go_ret
      exact ⟨_, rfl, hF.out⟩
end Go.Proofs.Ytcogpcalghfghaa
