/-
  The program's slide.
-/
import Derived.Test.YtidgppghakmkaaaHv
import Derived.Laws.CopyRow
set_option linter.unusedVariables false
set_option linter.unusedSimpArgs false
namespace Go.Proofs.Ytidgppghakmkaaa
open Go.RowKit Go.Shelf Hp
attribute [local go_sem] Oper.semAt_some
attribute [local simp] wide_fn

/-- A copy of things of five cells each, within rows. -/
theorem run_copy5 (P : Program) (w : World) (dT sT ty elem : TypeId) (g o dLen dCap : Nat) (a : Addr) (sLen sCap n : Nat) (cur : Array Value) (t : TypeId) (cs : List Value)
    (hu : P.underlying dT = some (.slice elem)) (hs : (P.info? elem).map (·.size) = some 5)
    (hg : w.heap[g]? = some (.cells cur t (0, 0))) (hn : n = Nat.min sLen dLen) (hl : cs.length = n * 5)
    (hsrc : ∀ j v, cs[j]? = some v → w.cell? (a.add j) = some v) (hfit : o + cs.length ≤ cur.size) (h1 : ∀ v ∈ cs, v.oneCell' = true) :
    (Builtin.copy_ #[dT, sT] ty #[.slice (some ⟨g, o, none⟩) dLen dCap, .slice (some a) sLen sCap]).run P w =
      .ok (goInt n) (w.setRow g (cur.toList.take o ++ cs ++ cur.toList.drop (o + cs.length)).toArray) := by
  have hl2 := run_loadCells_list (P := P) w a cs hsrc
  have hst := run_storeCells_at P g o t cs 0 cur w hg (by simpa using hfit) h1
  rw [hl] at hl2
  cases hq : P.info? elem with
  | none => simp [hq] at hs
  | some i =>
    have hi : i.size = 5 := by simpa [hq] using hs
    simp [Builtin.copy_, run_underlying hu, Builtin.lenOf, Builtin.firstCells, sizeOf, typeInfo, hq, hi, ← hn, hl2, hst]

def cut5 (f : Nat → PC) (src n : Nat) : List Value := List.ofFn (n := n * 5) fun i => cv (f (src + i.1 / 5)) (i.1 % 5)
theorem cut5_len (f : Nat → PC) (src n : Nat) : (cut5 f src n).length = n * 5 := by simp [cut5]
theorem cut5_at (f : Nat → PC) (src n j : Nat) : (cut5 f src n)[j]? = if j < n * 5 then some (cv (f (src + j / 5)) (j % 5)) else none := by
  unfold cut5
  rw [List.getElem?_ofFn]
  split <;> rfl
theorem rowC_mv (f : Nat → PC) {N src dst n : Nat} (hd : dst + n ≤ N) : ((rowC f N).toList.take (dst * 5) ++ cut5 f src n ++ (rowC f N).toList.drop (dst * 5 + (cut5 f src n).length)).toArray = rowC (mv f src dst n) N := by
  rw [cut5_len]
  apply Array.ext_getElem?
  intro i
  have hR : ∀ i, (rowC f N).toList[i]? = if i < N * 5 then some (cv (f (i / 5)) (i % 5)) else none := fun i => by rw [Array.getElem?_toList, rowC_all]
  have hlen : (rowC f N).toList.length = N * 5 := by rw [Array.length_toList, rowC_size]
  rw [List.getElem?_toArray, rowC_all, List.append_assoc]
  by_cases h1 : i < dst * 5
  · rw [List.getElem?_append_left (by rw [List.length_take, hlen]; omega), List.getElem?_take, if_pos h1, hR]
    have : ¬ (dst ≤ i / 5 ∧ i / 5 < dst + n) := by omega
    simp only [mv, if_neg this]
  · rw [List.getElem?_append_right (by rw [List.length_take, hlen]; omega), List.length_take, hlen, show min (dst * 5) (N * 5) = dst * 5 by omega]
    by_cases h2 : i < dst * 5 + n * 5
    · rw [List.getElem?_append_left (by rw [cut5_len]; omega), cut5_at, if_pos (by omega), if_pos (by omega)]
      have h3 : dst ≤ i / 5 ∧ i / 5 < dst + n := by omega
      have e1 : src + (i - dst * 5) / 5 = src + (i / 5 - dst) := by omega
      have e2 : (i - dst * 5) % 5 = i % 5 := by omega
      simp only [mv, if_pos h3]
      rw [e1, e2]
    · rw [List.getElem?_append_right (by rw [cut5_len]; omega), cut5_len, List.getElem?_drop, hR, show dst * 5 + n * 5 + (i - dst * 5 - n * 5) = i by omega]
      have : ¬ (dst ≤ i / 5 ∧ i / 5 < dst + n) := by omega
      simp only [mv, if_neg this]
theorem cv_one (c : PC) (k : Nat) : (cv c k).oneCell' = true := by
  unfold cv
  split <;> rfl
theorem setRow_other {w : World} {g b : Nat} (cs : Array Value) (h : b ≠ g) : (w.setRow g cs).heap[b]? = w.heap[b]? := by
  unfold World.setRow
  simp [Array.getElem?_modify, Ne.symm h]
theorem setRow_size (w : World) (g : Nat) (cs : Array Value) : (w.setRow g cs).heap.size = w.heap.size := by simp [World.setRow]
/-- The heap after such a copy. -/
theorem HM.copy {w : World} {hb g N : Nat} {f : Nat → PC} {u : Nat} (H : HM w hb g N f u) {src dst n : Nat} (hs : src + n ≤ N) (hd : dst + n ≤ N) (P : Program) (dT sT ty elem : TypeId) (dCap sLen sCap : Nat)
    (hu : P.underlying dT = some (.slice elem)) (hsz : (P.info? elem).map (·.size) = some 5) (hn : n = Nat.min sLen (N - dst)) :
    (Builtin.copy_ #[dT, sT] ty #[.slice (some ⟨g, dst * 5, none⟩) (N - dst) dCap, .slice (some ⟨g, src * 5, none⟩) sLen sCap]).run P w = .ok (goInt n) (w.setRow g (rowC (mv f src dst n) N)) ∧ HM (w.setRow g (rowC (mv f src dst n) N)) hb g N (mv f src dst n) u ∧ Ch (fun k => k = g) w (w.setRow g (rowC (mv f src dst n) N)) := by
  refine ⟨?_, ⟨(setRow_other _ H.ne).trans H.hd, setRow_heap w g _ _ _ _ H.row, H.ne, H.le, H.max⟩, ⟨by rw [setRow_size]; exact Nat.le_refl _, fun k _ hk => setRow_other _ hk, rfl, rfl⟩⟩
  have := run_copy5 P w dT sT ty elem g (dst * 5) (N - dst) dCap ⟨g, src * 5, none⟩ sLen sCap n (rowC f N) 61 (cut5 f src n) hu hsz H.row hn (cut5_len f src n) (fun j v hj => by
      rw [cut5_at] at hj
      split at hj
      · rename_i hlt
        rw [show (⟨g, src * 5, none⟩ : Addr).add j = ⟨g, src * 5 + j, none⟩ by unfold Addr.add; split <;> simp_all, show src * 5 + j = (src + j / 5) * 5 + j % 5 by omega, H.cell (by omega) (by omega)]
        exact hj
      · cases hj) (by rw [cut5_len, rowC_size]; omega) (fun v hv => by
      unfold cut5 at hv
      obtain ⟨i, rfl⟩ := List.mem_ofFn.1 hv
      exact cv_one _ _)
  rw [rowC_mv f hd] at this
  exact this
theorem upd_upd (f : Nat → PC) (a : Nat) (c d : PC) : Hp.upd (Hp.upd f a c) a d = Hp.upd f a d := by
  funext x
  unfold Hp.upd
  split <;> rfl
theorem Sl_shift {m : Nat → Bool} {T : List Th} {f : Nat → PC} {a x : Nat} (hx : a ≤ x) (h : ∀ j, a ≤ j → j < x → m j = false) (hs : Sl m T f a) : Sl m T f x := by
  induction x with
  | zero => obtain rfl : a = 0 := by omega
            exact hs
  | succ x ih =>
    by_cases e : a = x + 1
    · rw [← e]; exact hs
    · exact (ih (by omega) (fun j h1 h2 => h j h1 (by omega))).skip (h x (by omega) (by omega))
/-- What lies there while things slide. -/
structure SdI (B hb g N : Nat) (T : List Th) (m : Nat → Bool) (pre : List Nat) (O1 : Nat → Prop) (W : World) : Prop where
  own : ∀ k, O1 k ↔ k = g
  hp : W.heap[B]? = some (.cells #[.pointer (some ⟨hb, 0, none⟩)] 23 (0, 0))
  st : ∃ a f, a ≤ T.length ∧ (a = 0 ∨ m (a - 1) = true) ∧ pre = upTo m a ∧ HM W hb g N f (used T) ∧ Sl m T f a

set_option maxRecDepth 100000 in
set_option maxHeartbeats 8000000 in
theorem slide_any (w : World) (hb g N : Nat) (T : List Th) (m : Nat → Bool) (f : Nat → PC) (H : HM w hb g N f (used T)) (hL : Lay T f (gR m T T.length 0)) :
    Calls Try.prog 25 #[.pointer (some ⟨hb, 0, none⟩)] w fun e w' => e = .returned (.tuple #[]) ∧ (∃ f', HM w' hb g N f' (used T) ∧ Lay (coll m T) f' (g0 (coll m T))) ∧ Ch (fun k => k = g) w w' := by
  refine (callsIn_wide (n := 0)).1 ?_
  refine callsIn_of_wp_marks Try.func25 rfl trivial ?_ rfl
  simp only [Try.ntmps25, List.size_toArray, List.length_cons, List.length_nil, Nat.reduceAdd, Nat.reduceSub, Array.replicate_succ, Array.replicate_zero, List.push_toArray, List.append_toArray, List.nil_append, List.cons_append]
  have hbl : hb < w.heap.size := (Array.getElem?_eq_some_iff.1 H.hd).1
  have hgl : g < w.heap.size := (Array.getElem?_eq_some_iff.1 H.row).1
  gi_wp2
  obtain ⟨W0, hW0⟩ : ∃ W0, (w.alloc (.cells #[.pointer (some ⟨hb, 0, none⟩)] 23)) = W0 := ⟨_, rfl⟩
  have hc0 : Ch (fun _ => False) w W0 := by rw [← hW0]; exact (Ch.refl _ w).al _
  have hs0 : W0.heap.size = w.heap.size + 1 := by rw [← hW0]; simp
  have b0 : W0.heap[w.heap.size]? = some (.cells #[.pointer (some ⟨hb, 0, none⟩)] 23 (0, 0)) := by
    rw [← hW0]; exact World.alloc_heap_new w _
  rw [hW0]
  clear hW0
  have H0 := H.keep hc0
  generalize hBB : w.heap.size = B at *
  refine wp_rangeR (gf := 33) (bd := #[.pointer (some ⟨hb, 0, none⟩)]) (lb := #[]) (encs := fun i : Nat => #[.int .i64 (ad T i : Nat)]) (xs := upTo m T.length) (Rd := KRd hb g N T m) (O := fun k => k = g) rfl (enters_of Try.func33 (by kernel_rfl) rfl)
    (fun W1 _ => kept_goes W1 hb g N T m) (fun _ => rfl) (SdI B hb g N T m) ?rd ?owns ?start (fun x => { tmps := #[.pointer (some ⟨hb, 0, none⟩), .pointer (some ⟨B, 0, none⟩), .int .i64 (ad T x : Nat), undef, .pointer (some ⟨hb, 0, none⟩), .func (.func 33) #[.pointer (some ⟨hb, 0, none⟩)] #[], .int .i64 (ad T x : Nat), undef, undef, undef, undef, undef, undef, undef, undef, undef, undef, undef, undef, undef, undef, undef, undef, undef, undef, undef, undef, undef, undef, undef, undef, undef, undef, undef, undef, undef, undef, undef, undef, undef, undef, undef, undef, undef, undef, undef, undef, undef, undef, undef, undef, undef], defers := [] }) ?assign ?body ?done
  case rd =>
    rintro pre O1 W ⟨-, -, a, f1, ha, hl, rfl, H1, hS1⟩
    refine ⟨f1, H1, fun i t ht hj => ?_⟩
    have hai : a ≤ i := by
      rcases hl with h | h
      · omega
      · rcases Nat.eq_zero_or_pos a with h0 | h0
        · omega
        · have := hj (a - 1) (List.mem_filter.2 ⟨List.mem_range.2 (by omega), h⟩)
          omega
    have := hS1.rest i t ht hai 0 (Nat.zero_le _)
    rw [Nat.add_zero] at this
    rw [this]
    simp [gR, headC, thOf_at ht]
  case owns =>
    refine ⟨?_, ?_⟩
    · rintro pre O1 W W' ⟨ho, hp, a, f1, ha, hl, rfl, H1, hL1⟩ heo hsz hsm
      exact ⟨ho, (hsm B (.inr (by omega))).trans hp, a, f1, ha, hl, rfl, ⟨(hsm hb (.inr (by omega))).trans H1.hd, (hsm g (.inr (by omega))).trans H1.row, H1.ne, H1.le, H1.max⟩, hL1⟩
    · rintro pre O1 W k ⟨ho, hp, a, f1, ha, hl, rfl, H1, hL1⟩ hk
      rw [(ho k).1 hk]
      exact (Array.getElem?_eq_some_iff.1 H1.row).1
  case start => exact ⟨fun _ => Iff.rfl, b0, 0, f, Nat.zero_le _, .inl rfl, rfl, H0, Sl.start hL⟩
  case assign =>
    intro l2 x W K hK
    simp only [List.zip_toArray, List.foldl_toArray, List.zip_cons_cons, List.zip_nil_right, List.foldl_cons, List.foldl_nil, List.setIfInBounds_toArray, List.set_cons_zero, List.set_cons_succ]
    gi_wp2
    exact hK
  case body =>
    rintro l2 pre x O1 W ⟨ho, hp, a, f1, ha, hl, rfl, H1, hS1⟩ ⟨rest, hx⟩ - hc
    obtain ⟨hax, hxl, hmx, hsk⟩ := upTo_next _ a rfl ha hx
    have hS2 : Sl m T f1 x := Sl_shift hax hsk hS1
    have eu : upTo m (x + 1) = upTo m a ++ [x] := by rw [upTo_succ, hmx, upTo_same hax hsk]; rfl
    obtain ⟨t, ht⟩ : ∃ t, T[x]? = some t := ⟨_, List.getElem?_eq_getElem hxl⟩
    have hud := ad_used ht
    have hs : t.size = t.l.length + 1 := rfl
    have hle := H1.le
    have hmxN := H1.max
    have hna := nad_le m T x (by omega)
    have haN : ad T x < N := by omega
    have haNI : ((ad T x : Nat) : Int) < (N : Int) := by omega
    have hfx : f1 (ad T x) = headC T x 3 (nad m T x : Nat) := by
      have := hS2.rest x t ht (Nat.le_refl _) 0 (Nat.zero_le _)
      rw [Nat.add_zero] at this
      rw [this]
      simp [gR, hmx]
    have p0 : W.cell? ⟨B, 0, none⟩ = some (.pointer (some ⟨hb, 0, none⟩)) := by unfold World.cell?; rw [hp]; rfl
    obtain ⟨h0, -, -⟩ := H1.head
    obtain ⟨d0, -, -, -, d4⟩ := H1.five haN
    rw [hfx] at d0 d4
    simp only [headC] at d0 d4
    have gf0 := H1.fz (ad T x * 5)
    have gf4 := H1.fz (ad T x * 5 + 4)
    have hgB : B ≠ g := by omega
    gi_wp2
    refine wpIn_round_any (by kernel_rfl) (by kernel_rfl) ?_
    change wpAnyIn _ _ _ _ _ _ (15 + 1) _ _ _
    refine wpAnyIn_take (i := 9) rfl rfl (by kernel_rfl) (by kernel_rfl) (by kernel_rfl) (fun _ _ _ h => h) ⟨.inl ⟨rfl, fun w => rfl⟩, fun w => rfl⟩ ?_
    change wpAnyIn _ _ _ _ _ _ (9 + 6) _ (⟨#[.pointer (some ⟨hb, 0, none⟩), .pointer (some ⟨B, 0, none⟩), .int .i64 (ad T x : Nat), .int .i64 (nad m T x : Nat), .pointer (some ⟨hb, 0, none⟩), .func (.func 33) #[.pointer (some ⟨hb, 0, none⟩)] #[], .int .i64 (ad T x : Nat), .pointer (some ⟨hb, 0, none⟩), .pointer (some ⟨hb, 0, none⟩), .pointer (some ⟨hb, 0, none⟩), .slice (some ⟨g, 0, none⟩) N N, .int .i64 (ad T x : Nat), .pointer (some ⟨g, ad T x * 5, none⟩), .pointer (some ⟨g, ad T x * 5 + 4, none⟩), .int .i64 (nad m T x : Nat), undef, undef, undef, undef, undef, undef, undef, undef, undef, .int .i64 (ad T x : Nat), undef, undef, undef, undef, undef, undef, undef, undef, undef, undef, undef, undef, undef, undef, undef, undef, undef, undef, undef, undef, undef, undef, undef, undef, undef, undef, undef], []⟩ : Act) _
    refine wpAnyIn_splitK (w0 := W) 9 6 rfl (by decide) (by kernel_rfl) (Clsd.none.step (i := 9) (List.contains_iff_mem.1 (by kernel_rfl))) (by kernel_rfl) (by kernel_rfl) (by kernel_rfl) ⟨1, rfl⟩ ?_
    simp only [List.take_succ_cons, List.take_zero]
    repeat (gi_big_quiet_step (fail))
    refine wpQuietIn_nil ?_
    intro _ hw'
    obtain ⟨nq, hw''⟩ := hw'
    subst hw''
    refine wpAnyIn_ready (rs := [10]) (by kernel_rfl) (by simp) (AllReadyIn.cons rfl (fun K hK => ?_) AllReadyIn.nil)
    go_simp
    refine hK _ _ ?_
    clear hK K
    refine wpAnyIn_ready (rs := [11]) (by kernel_rfl) (by simp) (AllReadyIn.cons rfl (fun K hK => ?_) AllReadyIn.nil)
    go_simp
    refine hK _ _ ?_
    clear hK K
    refine wpAnyIn_ready (rs := [12]) (by kernel_rfl) (by simp) (AllReadyIn.cons rfl (fun K hK => ?_) AllReadyIn.nil)
    go_simp
    refine hK _ _ ?_
    clear hK K
    refine wpAnyIn_ready (rs := [13]) (by kernel_rfl) (by simp) (AllReadyIn.cons rfl (fun K hK => ?_) AllReadyIn.nil)
    go_simp
    refine hK _ _ ?_
    clear hK K
    refine wpAnyIn_ready (rs := [14]) (by kernel_rfl) (by simp) (AllReadyIn.cons rfl (fun K hK => ?_) AllReadyIn.nil)
    go_simp
    refine hK _ _ ?_
    clear hK K
    refine wpAnyIn_ready (rs := [15]) (by kernel_rfl) (by simp) (AllReadyIn.cons rfl (fun K hK => ?_) AllReadyIn.nil)
    go_simp
    refine hK _ _ ?_
    clear hK K
    refine wpAnyIn_done (by kernel_rfl) ?_ _
    have hsame : ∀ (is n : Int) (k : Nat) (j : Nat), j < 5 → j ≠ 0 → cv (headC T x 2 (nad m T x : Nat)) j = cv (f1 (ad T x)) j := fun is n k j hj hk => by
      rw [hfx]
      rcases (show j = 0 ∨ j = 1 ∨ j = 2 ∨ j = 3 ∨ j = 4 by omega) with rfl | rfl | rfl | rfl | rfl <;> first | rfl | exact absurd rfl hk
    have HN0 : HM (W.drewN nq) hb g N f1 (used T) := ⟨H1.hd, H1.row, H1.ne, H1.le, H1.max⟩
    have HN1 := HN0.set (k := 0) (headC T x 2 (nad m T x : Nat)) haN (by omega) (hsame 0 0 0)
    have HN2 := HN1.set (k := 4) (headC T x 2 0) haN (by omega) (fun j hj hk => by
      rw [show Hp.upd f1 (ad T x) (headC T x 2 (nad m T x : Nat)) (ad T x) = headC T x 2 (nad m T x : Nat) by simp [Hp.upd]]
      rcases (show j = 0 ∨ j = 1 ∨ j = 2 ∨ j = 3 ∨ j = 4 by omega) with rfl | rfl | rfl | rfl | rfl <;> first | rfl | exact absurd rfl hk)
    rw [upd_upd] at HN2
    change HM (((W.drewN nq).setCell ⟨g, ad T x * 5, none⟩ (.int .u8 2)).setCell ⟨g, ad T x * 5 + 4, none⟩ (.int .i64 0)) hb g N (Hp.upd f1 (ad T x) (headC T x 2 0)) (used T) at HN2
    have hcN : Ch (fun k => k = g) W (((W.drewN nq).setCell ⟨g, ad T x * 5, none⟩ (.int .u8 2)).setCell ⟨g, ad T x * 5 + 4, none⟩ (.int .i64 0)) := Ch.set (O := fun k => k = g) (w := W) (Ch.set (O := fun k => k = g) (w := W) (w' := W.drewN nq) ⟨Nat.le_refl _, fun _ _ _ => rfl, rfl, rfl⟩ (a := ⟨g, ad T x * 5, none⟩) rfl _) (a := ⟨g, ad T x * 5 + 4, none⟩) rfl _
    have hpN : (((W.drewN nq).setCell ⟨g, ad T x * 5, none⟩ (.int .u8 2)).setCell ⟨g, ad T x * 5 + 4, none⟩ (.int .i64 0)).heap[B]? = some (.cells #[.pointer (some ⟨hb, 0, none⟩)] 23 (0, 0)) := blk_other (blk_other (w := W.drewN nq) hp hgB) hgB
    have hS3 := hS2.step ht hmx
    have hf2 : Hp.upd f1 (ad T x) (headC T x 2 0) (ad T x) = headC T x 2 0 := by simp [Hp.upd]
    clear HN0 HN1 H1 hS1 hS2 hp p0 h0 d0 d4 gf0 gf4 hx hsk hfx hsame H hL H0 hc0 b0 hc
    generalize Hp.upd f1 (ad T x) (headC T x 2 0) = f2 at HN2 hS3 hf2
    generalize ((W.drewN nq).setCell ⟨g, ad T x * 5, none⟩ (.int .u8 2)).setCell ⟨g, ad T x * 5 + 4, none⟩ (.int .i64 0) = V at HN2 hcN hpN ⊢
    have p0 : V.cell? ⟨B, 0, none⟩ = some (.pointer (some ⟨hb, 0, none⟩)) := by unfold World.cell?; rw [hpN]; rfl
    obtain ⟨h0, -, -⟩ := HN2.head
    obtain ⟨-, -, -, d3, -⟩ := HN2.five haN
    rw [hf2] at d3
    simp only [headC, thOf_at ht] at d3
    have hwu : IntKind.u32.wrap (((t.l.length : Nat) : Int) + 1) = ((t.l.length : Nat) : Int) + 1 := IntWalk.u32_in _ (by omega)
    have hn1 : ¬ N = ad T x := by omega
    have hn2 : ¬ N = nad m T x := by omega
    have hcp : ∀ q, (Builtin.copy_ #[54, 54] 3 #[.slice (some ⟨g, nad m T x * 5, none⟩) (N - nad m T x) (N - nad m T x), .slice (some ⟨g, ad T x * 5, none⟩) (t.l.length + 1) (N - ad T x)]).run Try.prog (V.drewN q) = .ok (goInt t.size) ((V.drewN q).setRow g (rowC (mv f2 (ad T x) (nad m T x) t.size) N)) ∧ HM ((V.drewN q).setRow g (rowC (mv f2 (ad T x) (nad m T x) t.size) N)) hb g N (mv f2 (ad T x) (nad m T x) t.size) (used T) ∧ Ch (fun k => k = g) (V.drewN q) ((V.drewN q).setRow g (rowC (mv f2 (ad T x) (nad m T x) t.size) N)) := fun q =>
      HM.copy (w := V.drewN q) ⟨HN2.hd, HN2.row, HN2.ne, HN2.le, HN2.max⟩ (by omega) (by omega) Try.prog 54 54 3 61 _ _ _ (by kernel_rfl) (by kernel_rfl) (by rw [hs]; show _ = min _ _; omega)
    have hcp1 := fun q => (hcp q).1
    have FIN : Hid (∀ q, ∃ O2, SdI B hb g N T m (upTo m a ++ [x]) O2 ((V.drewN q).setRow g (rowC (mv f2 (ad T x) (nad m T x) t.size) N)) ∧ Ch O1 W ((V.drewN q).setRow g (rowC (mv f2 (ad T x) (nad m T x) t.size) N)) ∧ ∀ k, O2 k → O1 k ∨ W.heap.size ≤ k) := by
      intro q
      refine ⟨fun k => k = g, ⟨fun _ => Iff.rfl, (setRow_other _ hgB).trans hpN, x + 1, _, by omega, .inr (by simpa using hmx), eu.symm, (hcp q).2.1, hS3⟩, ?_, fun k hk => .inl ((ho k).2 hk)⟩
      have h1 : Ch (fun k => k = g) W (V.drewN q) := ⟨hcN.size, hcN.same, hcN.eo⟩
      exact (h1.trans (hcp q).2.2 (fun _ h => .inl h)).mono (fun k hk => (ho k).2 hk)
    clear hcp hcN hpN HN2 hS3 eu ho hf2
    gi_wp2
    refine wpIn_round_split 22 1 (by kernel_rfl) (by kernel_rfl) rfl (by kernel_rfl) (by kernel_rfl) (by kernel_rfl) ?_
    simp only [List.take_succ_cons, List.take_zero]
    repeat (gi_big_quiet_step (fail))
    refine wpQuietIn_nil ?_
    intro _ hw'
    obtain ⟨nq3, hw''⟩ := hw'
    subst hw''
    refine wpAnyIn_ready (rs := [22]) (by kernel_rfl) (by simp) (AllReadyIn.cons rfl (fun K hK => ?_) AllReadyIn.nil)
    go_simp
    refine hK _ _ ?_
    clear hK K
    refine wpAnyIn_done (by kernel_rfl) ?_ _
    exact ⟨rfl, FIN.out _⟩
  case done =>
    rintro D1 O2 W hD1 hn ⟨ho, hp, a, f1, ha, hl, hx, H1, hS1⟩ hc hsub hk
    have hsk := upTo_end hx.symm
    have hL2 := (Sl_shift ha hsk hS1).done
    gi_wp2
    refine ⟨by simp, .inl ⟨_, _, rfl, run_takeDeferred hk, ?_⟩⟩
    refine ⟨_, results_none rfl _ _ _, rfl, ⟨f1, ⟨(World.putObj_heap_other (by omega)).trans H1.hd, (World.putObj_heap_other (by omega)).trans H1.row, H1.ne, H1.le, H1.max⟩, hL2⟩, ?_⟩
    exact ((hc0.mono (fun _ h => h.elim)).trans hc (fun k h => .inl h)).trans (Ch.put (O := fun k => k = D1) W D1 _ rfl) (fun k hk => .inr (by omega))
end Go.Proofs.Ytidgppghakmkaaa
