/-
  The law's listed: what a row ranges over.
-/
import Derived.Test.YtknjbiineihgfaaSe
import Derived.Test.YtknjbiineihgfaaSg
set_option linter.unusedVariables false
set_option linter.unusedSimpArgs false
namespace Go.Proofs.Ytknjbiineihgfaa
open Go.RowKit Go.Shelf
attribute [local go_sem] Oper.semAt_some

theorem listIn_append {F : Fence} {n : Nat} {P : Program} (w : World) {ops : Array Oper} {rest : List Oper} {o : Oper} {a : Act} {Q : Exit → Act → World → Prop}
    (hg : o.guard = none) (s x : Operand) (t : TypeId) (hop : o.op = Op.call { callee := Callee.builtin Builtin.append, args := #[s, x], argTypes := #[t, t] }) (e : TypeId) (z : Value) (size bytes : Nat)
    (ht : P.underlying t = some (.slice e)) (hinfo : (P.info? e).map (fun i => (i.zero, i.size, i.bytes)) = some (some z, size, bytes)) (hzs : z.cells.size = size) (hsz : 0 < size)
    (v : Value) (k : Nat) (xs : List Value) (hs : a.eval s = v) (hown : w.ownsRow 0 e size v k xs) (ad : Addr) (m c : Nat) (news : List Value) (hx : a.eval x = .slice (some ad) m c) (hl : news.length = m * size)
    (hc : ∀ j u, news[j]? = some u → w.cell? (ad.add j) = some u) (h1c : ∀ u ∈ news, u.oneCell' = true) (b1 : k + m ≤ maxLen) (b2 : (k + m) * bytes ≤ 140737488355328)
    (hK : ∀ v' w', w'.ownsRow 0 e size v' (k + m) (xs ++ news) → w.grownBy w' v.ownBlock → (v'.ownBlock = v.ownBlock ∨ v'.ownBlock = some w.heap.size) → wpListIn F n P ops Q rest (a.put o.dst v') w') :
    wpListIn F n P ops Q (o :: rest) a w := by
  refine wpListIn_plain hg fun K hK' => ?_
  obtain ⟨i, hi, hzz⟩ := Option.map_eq_some_iff.1 hinfo
  simp only [Prod.mk.injEq] at hzz
  obtain ⟨hz, hs1, hb⟩ := hzz
  obtain ⟨v', w', hrun, r1, r2, _, r4⟩ := run_append_own_at (P := P) w 0 t o.type e i z size bytes ht hi hz hs1 hb hzs hsz v k xs hown ad m c news hl hc h1c b1 b2 (Nat.zero_le _)
  unfold Oper.wpIn
  refine ⟨?_, ?_⟩
  · simp [Oper.about, hop, resolve, Target.leads, Sem.run_pure]
  · rw [Oper.semAt_plain F _ _ (by rw [hop]; intro c hc'; cases hc')]
    simp [execOp, hop, resolve, invoke, builtin, hs, hx, hrun, Result.andThen]
    exact hK' _ _ (hK v' w' r1 r2 r4)

def pairCells (l : List (Int × Int)) : List Value := l.flatMap fun x => [.int .i64 x.1, .int .i64 x.2]
theorem pair_len (l : List (Int × Int)) : (pairCells l).length = l.length * 2 := by
  induction l with
  | nil => rfl
  | cons s r ih => simp [pairCells] at ih ⊢; omega
theorem Try.infoP : (Try.prog.info? 52).map (fun i => (i.zero, i.size, i.bytes)) = some (some (.agg #[.int .i64 0, .int .i64 0]), 2, 16) := by kernel_rfl
/-- The variable l in the block B, and its row. -/
def Lst (B : Nat) (pre : List (Int × Int)) (O : Nat → Prop) (W : World) : Prop :=
  ∃ v, W.heap[B]? = some (.cells #[v] 44 (0, 0)) ∧ W.ownsRow 0 52 2 v pre.length (pairCells pre) ∧ v.ownBlock ≠ some B ∧ ∀ k, O k ↔ k = B ∨ v.ownBlock = some k
theorem Lst.owns (B N : Nat) : Owns N (Lst B) :=
  ⟨fun s O W W' ⟨v, h1, h2, h3, h4⟩ _ hsz hsm => ⟨v, (hsm B (.inl ((h4 B).2 (.inl rfl)))).trans h1, ownsRow_keep h2 (fun k hk => hsm k (.inl ((h4 k).2 (.inr hk)))), h3, h4⟩,
   fun s O W k ⟨v, h1, h2, h3, h4⟩ hk => by
    rcases (h4 k).1 hk with rfl | h
    · exact (Array.getElem?_eq_some_iff.1 h1).1
    · exact ownsRow_lt h2 h⟩

theorem app_facts {W w1 : World} {B n : Nat} {X : Obj} {u v' : Value} {xs : List Value} (h1 : W.heap[B]? = some (.cells #[u] 44 (0, 0))) (h3 : u.ownBlock ≠ some B) (hrow1 : w1.ownsRow 0 52 2 v' (n + 1) xs) (hgrow : (W.alloc X).grownBy w1 u.ownBlock) :
    ∃ g' cap', v' = .slice (some ⟨g', 0, none⟩) (n + 1) cap' ∧ w1.heap[B]? = some (.cells #[u] 44 (0, 0)) ∧ w1.cell? ⟨B, 0, none⟩ = some u ∧ w1.frozen? ⟨B, 0, none⟩ = false := by
  obtain ⟨g', cap', rfl⟩ := ownsRow_succ hrow1
  have hb2 : (W.alloc X).heap[B]? = _ := blk_alloc h1
  have hb3 := (hgrow.block B (Array.getElem?_eq_some_iff.1 hb2).1 (fun e => h3 e.symm)).trans hb2
  exact ⟨g', cap', rfl, hb3, by simp [World.cell?, hb3], by simp [World.frozen?, hb3]⟩

set_option maxRecDepth 100000 in
set_option maxHeartbeats 4000000 in
theorem listed_any (w : World) (gf : Nat) (lb : Array Value) (xs : List (Int × Int)) (D : Nat → Prop) (eg : ∀ args w, (callFunc gf args).run Try.prog w = .ok (.enter gf args) w) (hseq : ∀ W1, Ch (fun _ => False) w W1 → Goes Try.prog gf lb pairV xs D W1) (hD : ∀ k, D k → k < w.heap.size) (hxs : xs.length < 1000000000) :
    Calls Try.prog 36 #[.func (.func gf) #[] lb] w fun e w' => ∃ v, e = .returned v ∧ w'.ownsRow 0 52 2 v xs.length (pairCells xs) ∧ (∀ k, v.ownBlock = some k → w.heap.size ≤ k) ∧ Ch (fun _ => False) w w' := by
  refine (callsIn_wide (n := 0)).1 ?_
  refine callsIn_of_wp_marks Try.func36 rfl trivial ?_ rfl
  simp only [Try.ntmps36, List.size_toArray, List.length_cons, List.length_nil, Nat.reduceAdd, Nat.reduceSub, Array.replicate_succ, Array.replicate_zero, List.push_toArray, List.append_toArray, List.nil_append, List.cons_append]
  gi_wp2
  have hBl : ∀ W1, Ch (fun _ => False) (w.alloc (.cells #[.slice none 0 0] 44)) W1 → Goes Try.prog gf lb pairV xs D W1 := fun W1 h1 => hseq W1 (((Ch.refl _ w).al _).trans h1 (fun _ h => h.elim))
  obtain ⟨W0, hW0⟩ : ∃ W0, w.alloc (.cells #[.slice none 0 0] 44) = W0 := ⟨_, rfl⟩
  have b0 : W0.heap[w.heap.size]? = some (.cells #[.slice none 0 0] 44 (0, 0)) := by rw [← hW0]; exact World.alloc_heap_new w _
  have hs0 : W0.heap.size = w.heap.size + 1 := by rw [← hW0]; simp
  have hc0 : Ch (fun _ => False) w W0 := by rw [← hW0]; exact (Ch.refl _ w).al _
  rw [hW0] at hBl ⊢
  clear hW0
  refine wp_range (gf := gf) (lb := lb) (encs := pairV) (xs := xs) (D := D) (O := fun k => k = w.heap.size) rfl eg hBl (fun k hk => by have := hD k hk; omega) (fun _ => rfl) (fun k hk hk2 => by have := hD k hk; omega)
    (Lst w.heap.size) (Lst.owns _ _) ⟨.slice none 0 0, b0, ⟨rfl, .inl ⟨rfl, rfl⟩⟩, by simp [Value.ownBlock], fun k => by simp [Value.ownBlock]⟩
    (fun x => { tmps := #[.func (.func gf) #[] lb, undef, .slice none 0 0, .pointer (some ⟨w.heap.size, 0, none⟩), .int .i64 x.1, .int .i64 x.2, .func (.func gf) #[] lb, .int .i64 x.1, .int .i64 x.2, undef, undef, undef, undef, undef, undef, undef], defers := [] })
    ?assign ?body ?done
  case assign =>
    intro l2 x W K hK
    simp only [pairV, List.zip_toArray, List.foldl_toArray, List.zip_cons_cons, List.zip_nil_right, List.foldl_cons, List.foldl_nil, List.setIfInBounds_toArray, List.set_cons_zero, List.set_cons_succ]
    gi_wp2
    exact hK
  case body =>
    rintro l2 pre x O1 W ⟨v, h1, h2, h3, h4⟩ ⟨rest, hx⟩ hsub hc
    have hcl : W.cell? ⟨w.heap.size, 0, none⟩ = some v := by simp [World.cell?, h1]
    have hfr : W.frozen? ⟨w.heap.size, 0, none⟩ = false := by simp [World.frozen?, h1]
    have hpl : pre.length < 1000000000 := by rw [hx] at hxs; simp at hxs; omega
    obtain ⟨a, cap, rfl, _⟩ := row_slice h2
    have hAc : ∀ j u, ([.int .i64 x.1, .int .i64 x.2] : List Value)[j]? = some u → (W.alloc (.cells #[.int .i64 x.1, .int .i64 x.2] 52)).cell? ((⟨W.heap.size, 0, none⟩ : Addr).add j) = some u := by
      intro j u hj
      have hb := World.alloc_heap_new W (.cells #[.int .i64 x.1, .int .i64 x.2] 52)
      rw [show (⟨W.heap.size, 0, none⟩ : Addr).add j = ⟨W.heap.size, j, none⟩ by simp [Addr.add]; omega]
      simp only [World.cell?, hb]
      simpa using hj
    have hr1 : (W.alloc (.cells #[.int .i64 x.1, .int .i64 x.2] 52)).ownsRow 0 52 2 (.slice a pre.length cap) pre.length (pairCells pre) := ownsRow_keep h2 (fun k hk => (Ch.alloc (fun _ => False) W _).same k (ownsRow_lt h2 hk) (fun h => h))
    have hbl : w.heap.size < W.heap.size := (Array.getElem?_eq_some_iff.1 h1).1
    gi_wp2_with (gi_at_builtin; go_must (refine listIn_append _ rfl (.tmp 9) (.tmp 13) 44 rfl 52 (.agg #[.int .i64 0, .int .i64 0]) 2 16 Try.underlying44 Try.infoP rfl (by decide) (.slice a pre.length cap) pre.length (pairCells pre) rfl hr1 ⟨W.heap.size, 0, none⟩ 1 1 [.int .i64 x.1, .int .i64 x.2] rfl rfl hAc (by simp [Value.oneCell']) (by unfold maxLen; omega) (by omega) ?_); intro v' w1 hrow1 hgrow hblk; obtain ⟨g', cap', rfl, hb3, hcl3, hfr3⟩ := app_facts h1 h3 hrow1 hgrow)
    have hcw : Ch O1 W w1 := ((Ch.refl _ W).al _).trans (Ch.grown hgrow (fun k hk => hk)) (fun k hk => .inl ((h4 k).2 (.inr hk)))
    have hm : ∀ k, (Value.slice (some ⟨g', 0, none⟩) (pre.length + 1) cap').ownBlock = some k → O1 k ∨ W.heap.size ≤ k := by
      intro k hk
      rcases hblk with e | e
      · exact .inl ((h4 k).2 (.inr (e.symm.trans hk)))
      · rw [e] at hk; cases hk; exact .inr (by simp)
    refine ⟨fun k => k = w.heap.size ∨ (Value.slice (some ⟨g', 0, none⟩) (pre.length + 1) cap').ownBlock = some k, ⟨.slice (some ⟨g', 0, none⟩) (pre.length + 1) cap', blk_set hb3, ?_, ?_, fun k => Iff.rfl⟩, hcw.set (a := ⟨w.heap.size, 0, none⟩) ((h4 _).2 (.inl rfl)) _, ?_⟩
    · have hne : (Value.slice (some ⟨g', 0, none⟩) (pre.length + 1) cap').ownBlock ≠ some w.heap.size := fun e => by
        rcases hblk with e2 | e2
        · exact h3 (e2.symm.trans e)
        · rw [e2] at e; simp at e; omega
      have e5 : (pre ++ [x]).length = pre.length + 1 := by simp
      have e6 : pairCells (pre ++ [x]) = pairCells pre ++ [.int .i64 x.1, .int .i64 x.2] := by simp [pairCells]
      rw [e5, e6]
      exact ownsRow_keep hrow1 (fun k hk => Below.heap_setCell _ _ _ k (fun e => hne (by rw [hk, e])))
    · intro e
      rcases hblk with e2 | e2
      · exact h3 (e2.symm.trans e)
      · rw [e2] at e; simp at e; omega
    · rintro k (e | e)
      · exact .inl (.inl e)
      · exact (hm k e).imp_left (h4 k).1
  case done =>
    rintro D1 O2 W hD1 hO2 ⟨v, h1, h2, h3, h4⟩ hc2 hs2 hk
    have hcl : W.cell? ⟨w.heap.size, 0, none⟩ = some v := by simp [World.cell?, h1]
    obtain ⟨a, cap, rfl, _⟩ := row_slice h2
    gi_wp2
    refine ⟨by simp, .inl ⟨_, _, rfl, run_takeDeferred hk, ?_⟩⟩
    have hD1l : D1 < W.heap.size := (Array.getElem?_eq_some_iff.1 hk).1
    have hc4 : Ch (fun k => k = D1) W (W.putObj D1 (.deferred none)) := Ch.put _ _ _ rfl
    refine ⟨_, results_tmp rfl _ _ _, .slice a xs.length cap, rfl, ownsRow_keep h2 (fun k hk2 => hc4.same k (ownsRow_lt h2 hk2) (fun e => hO2 ((h4 _).2 (.inr (e ▸ hk2))))), fun k hk2 => ?_, ?_⟩
    · rcases hs2 k ((h4 k).2 (.inr hk2)) with e | e
      · exact absurd (e ▸ hk2) h3
      · omega
    · exact hc0.trans (O1 := fun k => w.heap.size ≤ k) ((hc2.mono (fun k e => by omega)).trans hc4 (fun k e => .inl (by omega))) (fun k h => .inr h)

set_option maxHeartbeats 1000000 in
theorem All_any (w : World) (b : Nat) :
    Calls Try.prog 37 #[.pointer (some ⟨b, 0, none⟩)] w fun e w' => e = .returned (.func (.func 44) #[] #[.pointer (some ⟨w.heap.size, 0, none⟩)]) ∧ w' = w.alloc (.cells #[.pointer (some ⟨b, 0, none⟩)] 80) := by
  go_enter Try.func37, Try.ntmps37
  go_wp2
  go_ret
  exact ⟨rfl, rfl⟩
set_option maxHeartbeats 1000000 in
theorem Tags_any (w : World) (b : Nat) :
    Calls Try.prog 38 #[.pointer (some ⟨b, 0, none⟩)] w fun e w' => e = .returned (.func (.func 47) #[] #[.pointer (some ⟨w.heap.size, 0, none⟩)]) ∧ w' = w.alloc (.cells #[.pointer (some ⟨b, 0, none⟩)] 80) := by
  go_enter Try.func38, Try.ntmps38
  go_wp2
  go_ret
  exact ⟨rfl, rfl⟩
set_option maxHeartbeats 1000000 in
theorem pAll_any (w : World) (b : Nat) :
    Calls Try.prog 41 #[.pointer (some ⟨b, 0, none⟩)] w fun e w' => e = .returned (.func (.func 44) #[] #[.pointer (some ⟨w.heap.size, 0, none⟩)]) ∧ w' = w.alloc (.cells #[.pointer (some ⟨b, 0, none⟩)] 80) := by
  have ha := All_any w b
  go_enter Try.func41, Try.ntmps41
  go_wp2_with (go_at_call 37; refine ha.mono ?_; clear ha; rintro e w' ⟨rfl, rfl⟩; dsimp only)
  go_ret
  exact ⟨rfl, rfl⟩
set_option maxHeartbeats 1000000 in
theorem pTags_any (w : World) (b : Nat) :
    Calls Try.prog 42 #[.pointer (some ⟨b, 0, none⟩)] w fun e w' => e = .returned (.func (.func 47) #[] #[.pointer (some ⟨w.heap.size, 0, none⟩)]) ∧ w' = w.alloc (.cells #[.pointer (some ⟨b, 0, none⟩)] 80) := by
  have ha := Tags_any w b
  go_enter Try.func42, Try.ntmps42
  go_wp2_with (go_at_call 38; refine ha.mono ?_; clear ha; rintro e w' ⟨rfl, rfl⟩; dsimp only)
  go_ret
  exact ⟨rfl, rfl⟩
set_option maxHeartbeats 1000000 in
theorem pLen_any (w : World) (b : Nat) (c : Int) (h : w.cell? ⟨b, 5, none⟩ = some (.int .i64 c)) :
    Calls Try.prog 39 #[.pointer (some ⟨b, 0, none⟩)] w fun e w' => e = .returned (.int .i64 c) ∧ w' = w := by
  have ha := len_any w b c h
  go_enter Try.func39, Try.ntmps39
  go_wp2_with (go_at_call 21; refine ha.mono ?_; clear ha; rintro e w ⟨rfl, rfl⟩; dsimp only)
  go_ret
  exact ⟨rfl, rfl⟩
set_option maxHeartbeats 1000000 in
theorem pSegments_any (w : World) (b n : Nat) (a : Option Addr) (cap : Nat) (h : w.cell? ⟨b, 0, none⟩ = some (.slice a n cap)) (hn : n < 1000000000000) :
    Calls Try.prog 40 #[.pointer (some ⟨b, 0, none⟩)] w fun e w' => e = .returned (.int .i64 (n + 1 : Nat)) ∧ w' = w := by
  have ha := segments_any w b n a cap h hn
  go_enter Try.func40, Try.ntmps40
  go_wp2_with (go_at_call 22; refine ha.mono ?_; clear ha; rintro e w ⟨rfl, rfl⟩; dsimp only)
  go_ret
  exact ⟨by simp, rfl⟩

/-- What All tells, listed. -/
theorem listed_All (w : World) (D : Nat → Prop) (b : Nat) (S : List Sn) (z : Sn) (a : Option Addr) (cap g : Nat) (cnt : Int) (hDl : ∀ k, D k → k < w.heap.size) (h : RowAt D w b S z a cap g cnt) (hn : S.length < 1000000000) (hlen : ∀ x ∈ S ++ [z], x.s.l.length < 1000000000) (hf : (flatF 0 ((S ++ [z]).map Sn.s)).length < 1000000000) (B : Nat) (hB : w.heap[B]? = some (.cells #[.pointer (some ⟨b, 0, none⟩)] 80 (0, 0))) :
    Calls Try.prog 36 #[.func (.func 44) #[] #[.pointer (some ⟨B, 0, none⟩)]] w fun e w' => ∃ v, e = .returned v ∧ w'.ownsRow 0 52 2 v (flatF 0 ((S ++ [z]).map Sn.s)).length (pairCells (flatF 0 ((S ++ [z]).map Sn.s))) ∧ (∀ k, v.ownBlock = some k → w.heap.size ≤ k) ∧ Ch (fun _ => False) w w' := by
  have hBl : B < w.heap.size := (Array.getElem?_eq_some_iff.1 hB).1
  have hD2 : ∀ k, (D k ∨ k = B) → k < w.heap.size := fun k hk => by rcases hk with hk | hk; exact hDl k hk; omega
  refine listed_any w 44 _ _ (fun k => D k ∨ k = B) (enters_of Try.func44 (by kernel_rfl) rfl) (fun W1 hc => ?_) hD2 hf
  have hs : ∀ k, D k → W1.heap[k]? = w.heap[k]? := fun k hk => hc.same k (hDl k hk) (fun h => h)
  refine All1_goes W1 _ B b S z a cap g cnt ?_ (.inr rfl) (fun k hk => Nat.lt_of_lt_of_le (hD2 k hk) hc.size) (h.keep (fun k hk => .inl hk) hs) hn hlen
  simp [World.cell?, (hc.same B hBl (fun h => h)).trans hB]
theorem listed_Tags (w : World) (D : Nat → Prop) (b : Nat) (S : List Sn) (z : Sn) (a : Option Addr) (cap g : Nat) (cnt : Int) (hDl : ∀ k, D k → k < w.heap.size) (h : RowAt D w b S z a cap g cnt) (hn : S.length < 1000000000) (hf : (flatT 0 ((S ++ [z]).map Sn.s)).length < 1000000000) (B : Nat) (hB : w.heap[B]? = some (.cells #[.pointer (some ⟨b, 0, none⟩)] 80 (0, 0))) :
    Calls Try.prog 36 #[.func (.func 47) #[] #[.pointer (some ⟨B, 0, none⟩)]] w fun e w' => ∃ v, e = .returned v ∧ w'.ownsRow 0 52 2 v (flatT 0 ((S ++ [z]).map Sn.s)).length (pairCells (flatT 0 ((S ++ [z]).map Sn.s))) ∧ (∀ k, v.ownBlock = some k → w.heap.size ≤ k) ∧ Ch (fun _ => False) w w' := by
  have hBl : B < w.heap.size := (Array.getElem?_eq_some_iff.1 hB).1
  have hD2 : ∀ k, (D k ∨ k = B) → k < w.heap.size := fun k hk => by rcases hk with hk | hk; exact hDl k hk; omega
  refine listed_any w 47 _ _ (fun k => D k ∨ k = B) (enters_of Try.func47 (by kernel_rfl) rfl) (fun W1 hc => ?_) hD2 hf
  have hs : ∀ k, D k → W1.heap[k]? = w.heap[k]? := fun k hk => hc.same k (hDl k hk) (fun h => h)
  refine Tags1_goes W1 _ B b S z a cap g cnt ?_ (.inr rfl) (fun k hk => Nat.lt_of_lt_of_le (hD2 k hk) hc.size) (h.keep (fun k hk => .inl hk) hs) hn
  simp [World.cell?, (hc.same B hBl (fun h => h)).trans hB]
end Go.Proofs.Ytknjbiineihgfaa
