/-
  The document's machine: its first call.
-/
import Derived.Test.YtpjbfdpblgjmfaaGreatDoorML
set_option linter.unusedVariables false
set_option linter.unusedSimpArgs false
namespace Go.Proofs.YtpjbfdpblgjmfaaGreatDoor
open Go.RowKit Go.Lib

theorem run_make_at {P : Program} (t e : TypeId) (z : Value) (size bytes : Nat) (ht : P.underlying t = some (.slice e)) (hinfo : (P.info? e).map (fun i => (i.zero, i.size, i.bytes)) = some (some z, size, bytes))
    (kl kc : IntKind) (n : Nat) (hbytes : bytes * n ≤ 281474976710656) (h63 : n ≤ 9223372036854775807) (w : World) :
    (Instr.makeSlice t (.int kl (n : Int)) (.int kc (n : Int))).run P w = .ok (.slice (some ⟨w.heap.size, 0, none⟩) n n) (w.alloc (.cells (madeCells z.cells (n * size)) e)) := by
  obtain ⟨i, hi, hzz⟩ := Option.map_eq_some_iff.1 hinfo
  simp only [Prod.mk.injEq] at hzz
  obtain ⟨hz, hs, hb⟩ := hzz
  have hb' : (i.bytes : Int) * (n : Int) ≤ 281474976710656 := by
    have h : ((i.bytes * n : Nat) : Int) ≤ 281474976710656 := by rw [hb]; omega
    rwa [Int.natCast_mul] at h
  have hr := run_make (P := P) w t e i z ht hi hz kl kc n n (by omega) (Int.le_refl _) hb' (by omega)
  simp only [Int.toNat_natCast, hs] at hr
  exact hr
theorem Tryz.infoCl : (Tryz.prog.info? 62).map (fun i => (i.zero, i.size, i.bytes)) = some (some (.agg #[.bool false, .int .i64 0]), 2, 16) := by kernel_rfl
theorem Tryz.infoRC : (Tryz.prog.info? 130).map (fun i => (i.zero, i.size, i.bytes)) = some (some (.agg #[.int .i64 0, .bool false, .int .i64 0, .bool false, .int .i64 0, .int .i64 0, .slice none 0 0, .slice none 0 0]), 8, 96) := by kernel_rfl

set_option maxRecDepth 100000 in
set_option maxHeartbeats 8000000 in
theorem enter_zero (w : World) (rb q g k len cap n : Nat) (hn : n ≤ 65535) (hl : 0 < len) (hqr : rb ≠ q) (hqg : g ≠ q) (h7 : w.cell? ⟨rb, 7, none⟩ = some (.slice (some ⟨q, 0, none⟩) 1 1)) (hq : w.heap[q]? = some (.cells #[.bool false, .bool false, .int .i64 0, .slice none 0 0] 65 (0, 0)))
    (h3 : w.cell? ⟨rb, 3, none⟩ = some (.slice (some ⟨g, k, none⟩) len cap)) (hs : w.cell? ⟨g, k + 1, none⟩ = some (.int .i64 n)) :
    Calls Tryz.prog 17 #[.pointer (some ⟨rb, 0, none⟩), .agg #[.bool false, .int .i64 0], .int .i64 0, .agg #[.bool false, .int .i64 0]] w fun e w' => e = .returned (.tuple #[]) ∧ Ch (fun k => k = q) w w' := by
  have hml : rb < w.heap.size := block_lt_of_cell h3
  have hgl : g < w.heap.size := block_lt_of_cell hs
  have hql : q < w.heap.size := (Array.getElem?_eq_some_iff.1 hq).1
  obtain ⟨V, hV⟩ : ∃ V, (w.alloc (.cells #[.bool false, .int .i64 0] 62)).alloc (.cells #[.bool false, .int .i64 0] 62) = V := ⟨_, rfl⟩
  have hcV : Ch (fun _ => False) w V := by rw [← hV]; exact ((Ch.refl _ w).al _).al _
  have hzV : V.heap.size = w.heap.size + 2 := by rw [← hV]; simp
  have hA : V.heap[w.heap.size]? = some (.cells #[.bool false, .int .i64 0] 62 (0, 0)) := by rw [← hV]; exact blk_alloc (World.alloc_heap_new _ _)
  have hB : V.heap[w.heap.size + 1]? = some (.cells #[.bool false, .int .i64 0] 62 (0, 0)) := by
    rw [← hV]; have := World.alloc_heap_new (w.alloc (.cells #[.bool false, .int .i64 0] 62)) (.cells #[.bool false, .int .i64 0] 62); rwa [World.size_alloc] at this
  obtain ⟨a0, a1, -⟩ := two_cells hA
  obtain ⟨b0, b1, -⟩ := two_cells hB
  have v7 := kcc hcV h7
  have v3 := kcc hcV h3
  have vs := kcc hcV hs
  have hqV := (hcV.same q hql (fun h => h)).trans hq
  obtain ⟨q0, q1, q2, q3, qf⟩ := four_cells hqV
  have hln : (0 : Int) < (len : Int) := by omega
  have HcV := hid hcV
  have HqV := hid hqV
  clear h7 hq h3 hs hA hB hcV hqV
  go_enter Tryz.func17, Tryz.ntmps17
  go_upto_region 1 with (fail)
  clear hV
  have hw0 : IntKind.i64.wrap 0 = 0 := by rw [IntWalk.i64_in _ (by omega)]
  go_region_held3 (fun w' => w'.cell? ⟨rb, 7, none⟩ = some (.slice (some ⟨q, 0, none⟩) 1 1)) (go_keep) (fail)
  go_upto_region 2 with (fail)
  obtain ⟨U, hU⟩ : ∃ U, V.drew = U := ⟨_, rfl⟩
  have hcU : Ch (fun _ => False) w U := by rw [← hU]; exact HcV.out.dr
  have u0 : U.cell? ⟨w.heap.size, 0, none⟩ = some (.bool false) := by rw [← hU]; exact a0
  have u1 : U.cell? ⟨w.heap.size, 1, none⟩ = some (.int .i64 0) := by rw [← hU]; exact a1
  have x0 : U.cell? ⟨w.heap.size + 1, 0, none⟩ = some (.bool false) := by rw [← hU]; exact b0
  have x1 : U.cell? ⟨w.heap.size + 1, 1, none⟩ = some (.int .i64 0) := by rw [← hU]; exact b1
  have u3 : U.cell? ⟨rb, 3, none⟩ = some (.slice (some ⟨g, k, none⟩) len cap) := by rw [← hU]; exact v3
  have us : U.cell? ⟨g, k + 1, none⟩ = some (.int .i64 n) := by rw [← hU]; exact vs
  have hqU : U.heap[q]? = some (.cells #[.bool false, .bool false, .int .i64 0, .slice none 0 0] 65 (0, 0)) := by rw [← hU]; exact HqV.out
  rw [hU]
  clear hU HcV HqV a0 a1 b0 b1 v3 vs v7 q0 q1 q2 q3 qf hzV
  have hqlU : q < U.heap.size := (Array.getElem?_eq_some_iff.1 hqU).1
  obtain ⟨q0, q1, q2, q3, qf⟩ := four_cells hqU
  have hmk := run_make_at (P := Tryz.prog) 110 62 (.agg #[.bool false, .int .i64 0]) 2 16 Tryz.underlying110 Tryz.infoCl .i64 .i64 n (by omega) (by omega)
  obtain ⟨MC, hMC⟩ : ∃ MC, madeCells (Value.agg #[.bool false, .int .i64 0]).cells (n * 2) = MC := ⟨_, rfl⟩
  rw [hMC] at hmk
  clear hMC
  have hr1 : ∀ X : World, X.ownsRow 0 130 8 (.slice none 0 0) 0 [] := fun X => ⟨rfl, .inl ⟨rfl, rfl⟩⟩
  have hAc : ∀ j u, ([.int .i64 0, .bool false, .int .i64 0, .bool false, .int .i64 0, .int .i64 0, .slice (some ⟨U.heap.size, 0, none⟩) n n, .slice none 0 0] : List Value)[j]? = some u → (((U.alloc (.cells MC 62)).alloc (.cells #[.int .i64 0, .bool false, .int .i64 0, .bool false, .int .i64 0, .int .i64 0, .slice (some ⟨U.heap.size, 0, none⟩) n n, .slice none 0 0] 130)).drew).cell? ((⟨U.heap.size + 1, 0, none⟩ : Addr).add j) = some u := by
    intro j u hj
    have hb := World.alloc_heap_new (U.alloc (.cells MC 62)) (.cells #[.int .i64 0, .bool false, .int .i64 0, .bool false, .int .i64 0, .int .i64 0, .slice (some ⟨U.heap.size, 0, none⟩) n n, .slice none 0 0] 130)
    rw [World.size_alloc] at hb
    rw [show (⟨U.heap.size + 1, 0, none⟩ : Addr).add j = ⟨U.heap.size + 1, j, none⟩ by simp [Addr.add]; omega]
    show ((U.alloc (.cells MC 62)).alloc (.cells #[.int .i64 0, .bool false, .int .i64 0, .bool false, .int .i64 0, .int .i64 0, .slice (some ⟨U.heap.size, 0, none⟩) n n, .slice none 0 0] 130)).cell? ⟨U.heap.size + 1, j, none⟩ = some u
    simp only [World.cell?, hb]
    simpa using hj
  have hr2 : ∀ u ∈ ([.int .i64 0, .bool false, .int .i64 0, .bool false, .int .i64 0, .int .i64 0, .slice (some ⟨U.heap.size, 0, none⟩) n n, .slice none 0 0] : List Value), u.oneCell' = true := by intro u hu; simp at hu; rcases hu with rfl | rfl | rfl | rfl | rfl | rfl | rfl <;> rfl
  have hb2 : (((U.alloc (.cells MC 62)).alloc (.cells #[.int .i64 0, .bool false, .int .i64 0, .bool false, .int .i64 0, .int .i64 0, .slice (some ⟨U.heap.size, 0, none⟩) n n, .slice none 0 0] 130)).drew).heap[q]? = some (.cells #[.bool false, .bool false, .int .i64 0, .slice none 0 0] 65 (0, 0)) := blk_alloc (blk_alloc hqU)
  have hal : Ch (fun _ => False) U (U.alloc (.cells MC 62)) := (Ch.refl _ U).al _
  have hal2 : Ch (fun _ => False) U ((U.alloc (.cells MC 62)).alloc (.cells #[.int .i64 0, .bool false, .int .i64 0, .bool false, .int .i64 0, .int .i64 0, .slice (some ⟨U.heap.size, 0, none⟩) n n, .slice none 0 0] 130)) := ((Ch.refl _ U).al _).al _
  have z0 := kcc hal u0
  have z1 := kcc hal u1
  have z2 := kcc hal x0
  have z3 := kcc hal x1
  have z4 := kcc hal u3
  have z5 := kcc hal us
  have z6 := kcc hal q3
  have z7 := kcc hal2 q3
  clear hal hal2
  have hn0 : w.heap.size ≠ q := by omega
  have hn1 : w.heap.size + 1 ≠ q := by omega
  refine wp_region_held_drew (S := (fun w' => w'.cell? ⟨w.heap.size, 0, none⟩ = some (.bool false) ∧ w'.cell? ⟨w.heap.size, 1, none⟩ = some (.int .i64 0) ∧ w'.cell? ⟨w.heap.size + 1, 0, none⟩ = some (.bool false) ∧ w'.cell? ⟨w.heap.size + 1, 1, none⟩ = some (.int .i64 0) ∧ w'.cell? ⟨rb, 3, none⟩ = some (.slice (some ⟨g, k, none⟩) len cap) ∧ w'.cell? ⟨g, k + 1, none⟩ = some (.int .i64 n))) (by kernel_rfl) (by first | trivial | ((try dsimp only); go_keep)) (fun hHeld => ?_)
  refine wpAnyH_take (i := 0) (v := ?vvn1) rfl (by kernel_rfl) (by kernel_rfl) (by kernel_rfl) (fun _ _ _ h => h) (Or.inl ⟨by rfl, ?yyn1⟩) (by assumption) ?rrn1
  case yyn1 => (intro w' hSw; (try dsimp only at hSw); go_simp; (try with_reducible rfl))
  try simp only [Act.put, List.setIfInBounds_toArray, List.set_cons_zero, List.set_cons_succ]
  refine wpAnyH_take (i := 1) (v := ?vvn2) rfl (by kernel_rfl) (by kernel_rfl) (by kernel_rfl) (fun _ _ _ h => h) (Or.inl ⟨by rfl, ?yyn2⟩) (by assumption) ?rrn2
  case yyn2 => (intro w' hSw; (try dsimp only at hSw); go_simp; (try with_reducible rfl))
  try simp only [Act.put, List.setIfInBounds_toArray, List.set_cons_zero, List.set_cons_succ]
  refine wpAnyH_take (i := 2) (v := ?vvn3) rfl (by kernel_rfl) (by kernel_rfl) (by kernel_rfl) (fun _ _ _ h => h) (Or.inl ⟨by rfl, ?yyn3⟩) (by assumption) ?rrn3
  case yyn3 => (intro w' hSw; (try dsimp only at hSw); go_simp; (try with_reducible rfl))
  try simp only [Act.put, List.setIfInBounds_toArray, List.set_cons_zero, List.set_cons_succ]
  refine wpAnyH_take (i := 3) (v := ?vvn4) rfl (by kernel_rfl) (by kernel_rfl) (by kernel_rfl) (fun _ _ _ h => h) (Or.inl ⟨by rfl, ?yyn4⟩) (by assumption) ?rrn4
  case yyn4 => (intro w' hSw; (try dsimp only at hSw); go_simp; (try with_reducible rfl))
  try simp only [Act.put, List.setIfInBounds_toArray, List.set_cons_zero, List.set_cons_succ]
  refine wpAnyH_take (i := 5) (v := ?vvn5) rfl (by kernel_rfl) (by kernel_rfl) (by kernel_rfl) (fun _ _ _ h => h) (Or.inl ⟨by rfl, ?yyn5⟩) (by assumption) ?rrn5
  case yyn5 => (intro w' hSw; (try dsimp only at hSw); go_simp; (try with_reducible rfl))
  try simp only [Act.put, List.setIfInBounds_toArray, List.set_cons_zero, List.set_cons_succ]
  refine wpAnyH_take (i := 6) (v := ?vvn6) rfl (by kernel_rfl) (by kernel_rfl) (by kernel_rfl) (fun _ _ _ h => h) (Or.inl ⟨by rfl, ?yyn6⟩) (by assumption) ?rrn6
  case yyn6 => (intro w' hSw; (try dsimp only at hSw); go_simp; (try with_reducible rfl))
  try simp only [Act.put, List.setIfInBounds_toArray, List.set_cons_zero, List.set_cons_succ]
  refine wpAnyH_take (i := 7) (v := ?vvn7) rfl (by kernel_rfl) (by kernel_rfl) (by kernel_rfl) (fun _ _ _ h => h) (Or.inl ⟨by rfl, ?yyn7⟩) (by assumption) ?rrn7
  case yyn7 => (intro w' hSw; (try dsimp only at hSw); go_simp; (try with_reducible rfl))
  try simp only [Act.put, List.setIfInBounds_toArray, List.set_cons_zero, List.set_cons_succ]
  refine wpAnyH_take (i := 8) (v := ?vvn8) rfl (by kernel_rfl) (by kernel_rfl) (by kernel_rfl) (fun _ _ _ h => h) (Or.inl ⟨by rfl, ?yyn8⟩) (by assumption) ?rrn8
  case yyn8 => (intro w' hSw; (try dsimp only at hSw); go_simp; (try with_reducible rfl))
  try simp only [Act.put, List.setIfInBounds_toArray, List.set_cons_zero, List.set_cons_succ]
  refine wpAnyH_take (i := 9) (v := ?vvn9) rfl (by kernel_rfl) (by kernel_rfl) (by kernel_rfl) (fun _ _ _ h => h) (Or.inl ⟨by rfl, ?yyn9⟩) (by assumption) ?rrn9
  case yyn9 => (intro w' hSw; (try dsimp only at hSw); go_simp; (try with_reducible rfl))
  try simp only [Act.put, List.setIfInBounds_toArray, List.set_cons_zero, List.set_cons_succ]
  refine wpAnyH_take (i := 10) (v := ?vvn10) rfl (by kernel_rfl) (by kernel_rfl) (by kernel_rfl) (fun _ _ _ h => h) (Or.inl ⟨by rfl, ?yyn10⟩) (by assumption) ?rrn10
  case yyn10 => (intro w' hSw; (try dsimp only at hSw); go_simp; (try with_reducible rfl))
  try simp only [Act.put, List.setIfInBounds_toArray, List.set_cons_zero, List.set_cons_succ]
  refine wpAnyH_take (i := 11) (v := ?vvn11) rfl (by kernel_rfl) (by kernel_rfl) (by kernel_rfl) (fun _ _ _ h => h) (Or.inl ⟨by rfl, ?yyn11⟩) (by assumption) ?rrn11
  case yyn11 => (intro w' hSw; (try dsimp only at hSw); go_simp; (try with_reducible rfl))
  try simp only [Act.put, List.setIfInBounds_toArray, List.set_cons_zero, List.set_cons_succ]
  refine wpAnyH_take (i := 12) (v := ?vvn12) rfl (by kernel_rfl) (by kernel_rfl) (by kernel_rfl) (fun _ _ _ h => h) (Or.inl ⟨by rfl, ?yyn12⟩) (by assumption) ?rrn12
  case yyn12 => (intro w' hSw; (try dsimp only at hSw); go_simp; (try with_reducible rfl))
  try simp only [Act.put, List.setIfInBounds_toArray, List.set_cons_zero, List.set_cons_succ]
  refine wpAnyH_take (i := 13) (v := ?vvn13) rfl (by kernel_rfl) (by kernel_rfl) (by kernel_rfl) (fun _ _ _ h => h) (Or.inl ⟨by rfl, ?yyn13⟩) (by assumption) ?rrn13
  case yyn13 => (intro w' hSw; (try dsimp only at hSw); go_simp; (try with_reducible rfl))
  try simp only [Act.put, List.setIfInBounds_toArray, List.set_cons_zero, List.set_cons_succ]
  refine wpAnyH_take (i := 14) (v := ?vvn14) rfl (by kernel_rfl) (by kernel_rfl) (by kernel_rfl) (fun _ _ _ h => h) (Or.inl ⟨by rfl, ?yyn14⟩) (by assumption) ?rrn14
  case yyn14 => (intro w' hSw; (try dsimp only at hSw); go_simp; (try with_reducible rfl))
  try simp only [Act.put, List.setIfInBounds_toArray, List.set_cons_zero, List.set_cons_succ]
  refine wpAnyH_take (i := 15) (v := ?vvn15) rfl (by kernel_rfl) (by kernel_rfl) (by kernel_rfl) (fun _ _ _ h => h) (Or.inl ⟨by rfl, ?yyn15⟩) (by assumption) ?rrn15
  case yyn15 => (intro w' hSw; (try dsimp only at hSw); go_simp; (try with_reducible rfl))
  try simp only [Act.put, List.setIfInBounds_toArray, List.set_cons_zero, List.set_cons_succ]
  refine wpAnyH_take (i := 16) (v := ?vvn16) rfl (by kernel_rfl) (by kernel_rfl) (by kernel_rfl) (fun _ _ _ h => h) (Or.inl ⟨by rfl, ?yyn16⟩) (by assumption) ?rrn16
  case yyn16 => (intro w' hSw; (try dsimp only at hSw); go_simp; (try with_reducible rfl))
  try simp only [Act.put, List.setIfInBounds_toArray, List.set_cons_zero, List.set_cons_succ]
  refine wpAnyH_ready (rs := [4, 17]) (by kernel_rfl) (by simp) (AllReadyH.cons rfl (fun K hK => ?_) (AllReadyH.cons rfl (fun K hK => ?_) AllReadyH.nil))
  · go_simp
    clear hHeld
    refine hK.out _ _ ?hs (fun hHeld => ?_)
    case hs => (first | trivial | ((try dsimp only); go_keep) | ((try dsimp only); simp [*, World.cell?_alloc_some, World.cell?_setCell_far, World.cell?_setCell_other]))
    clear hK K
    try simp only [Act.put, List.setIfInBounds_toArray, List.set_cons_zero, List.set_cons_succ]
    refine wpAnyH_ready (rs := [17]) (by kernel_rfl) (by simp) (AllReadyH.cons rfl (fun K hK => ?_) AllReadyH.nil)
    go_simp
    clear hHeld
    refine hK.out _ _ ?hs (fun hHeld => ?_)
    case hs => (first | trivial | ((try dsimp only); go_keep) | ((try dsimp only); simp [*, World.cell?_alloc_some, World.cell?_setCell_far, World.cell?_setCell_other]))
    clear hK K
    try simp only [Act.put, List.setIfInBounds_toArray, List.set_cons_zero, List.set_cons_succ]
    refine wpAnyH_take (i := 18) (v := ?vvn17) rfl (by kernel_rfl) (by kernel_rfl) (by kernel_rfl) (fun _ _ _ h => h) (Or.inl ⟨by rfl, ?yyn17⟩) (by assumption) ?rrn17
    case yyn17 => (intro w' hSw; (try dsimp only at hSw); go_simp; (try with_reducible rfl))
    try simp only [Act.put, List.setIfInBounds_toArray, List.set_cons_zero, List.set_cons_succ]
    refine wpAnyH_ready (rs := [19]) (by kernel_rfl) (by simp) (AllReadyH.cons rfl (fun K hK => ?_) AllReadyH.nil)
    go_simp
    clear hHeld
    refine hK.out _ _ ?hs (fun hHeld => ?_)
    case hs => (first | trivial | ((try dsimp only); go_keep) | ((try dsimp only); simp [*, World.cell?_alloc_some, World.cell?_setCell_far, World.cell?_setCell_other]))
    clear hK K
    try simp only [Act.put, List.setIfInBounds_toArray, List.set_cons_zero, List.set_cons_succ]
    refine wpAnyH_ready (rs := [20]) (by kernel_rfl) (by simp) (AllReadyH.cons rfl (fun K hK => ?_) AllReadyH.nil)
    refine step_append rfl (.tmp 24) (.tmp 39) 63 rfl 130 (.agg #[.int .i64 0, .bool false, .int .i64 0, .bool false, .int .i64 0, .int .i64 0, .slice none 0 0, .slice none 0 0]) 8 96 Tryz.underlying63 Tryz.infoRC rfl (by decide) (.slice none 0 0) 0 [] (by simp [Act.eval]) (by exact hr1 _) ⟨U.heap.size + 1, 0, none⟩ 1 1 [.int .i64 0, .bool false, .int .i64 0, .bool false, .int .i64 0, .int .i64 0, .slice (some ⟨U.heap.size, 0, none⟩) n n, .slice none 0 0] (by simp [Act.eval]) rfl (by exact hAc) hr2 (by unfold maxLen; omega) (by omega) ?_
    intro v' w1 hrow1 hgrow hblk
    obtain ⟨g', cap', rfl⟩ := ownsRow_succ hrow1
    have hb3 := (hgrow.block q (by simp; omega) (by simp [Value.ownBlock])).trans hb2
    obtain ⟨d0, d1, d2, d3, df⟩ := four_cells hb3
    have hcA : Ch (fun _ => False) w w1 := (((hcU.al _).al _).dr).trans (Ch.grown (O := fun _ => False) hgrow (fun k hk => by simp [Value.ownBlock] at hk)) (fun _ h => .inl h)
    have hcA0 : Ch (fun _ => False) U w1 := ((((Ch.refl _ U).al _).al _).dr).trans (Ch.grown (O := fun _ => False) hgrow (fun k hk => by simp [Value.ownBlock] at hk)) (fun _ h => .inl h)
    have y0 := kcc hcA0 u0
    have y1 := kcc hcA0 u1
    have y2 := kcc hcA0 x0
    have y3 := kcc hcA0 x1
    have y4 := kcc hcA0 u3
    have y5 := kcc hcA0 us
    clear hgrow hblk hcA0
    clear hHeld
    refine hK.out _ _ ?hs (fun hHeld => ?_)
    case hs => (first | trivial | ((try dsimp only); go_keep) | ((try dsimp only); simp [*, World.cell?_alloc_some, World.cell?_setCell_far, World.cell?_setCell_other]))
    clear hK K
    try simp only [Act.put, List.setIfInBounds_toArray, List.set_cons_zero, List.set_cons_succ]
    refine wpAnyH_take (i := 21) (v := ?vvn18) rfl (by kernel_rfl) (by kernel_rfl) (by kernel_rfl) (fun _ _ _ h => h) (Or.inl ⟨by rfl, ?yyn18⟩) (by assumption) ?rrn18
    case yyn18 => (intro w' hSw; (try dsimp only at hSw); go_simp; (try with_reducible rfl))
    try simp only [Act.put, List.setIfInBounds_toArray, List.set_cons_zero, List.set_cons_succ]
    refine wpAnyH_take (i := 22) (v := ?vvn19) rfl (by kernel_rfl) (by kernel_rfl) (by kernel_rfl) (fun _ _ _ h => h) (Or.inl ⟨by rfl, ?yyn19⟩) (by assumption) ?rrn19
    case yyn19 => (intro w' hSw; (try dsimp only at hSw); go_simp; (try with_reducible rfl))
    try simp only [Act.put, List.setIfInBounds_toArray, List.set_cons_zero, List.set_cons_succ]
    refine wpAnyH_ready (rs := [23]) (by kernel_rfl) (by simp) (AllReadyH.cons rfl (fun K hK => ?_) AllReadyH.nil)
    go_simp
    clear hHeld
    refine hK.out _ _ ?hs (fun hHeld => ?_)
    case hs => (first | trivial | ((try dsimp only); go_keep) | ((try dsimp only); simp [*, World.cell?_alloc_some, World.cell?_setCell_far, World.cell?_setCell_other]))
    clear hK K
    try simp only [Act.put, List.setIfInBounds_toArray, List.set_cons_zero, List.set_cons_succ]
    refine wpAnyH_done (by kernel_rfl) ?_ _
    clear hHeld
    go_wp2
    go_end0
    exact ⟨rfl, (hcA.mono (fun _ h => h.elim)).trans (Ch.setCell (O := fun k => k = q) w1 ⟨q, 3, none⟩ _ rfl) (fun _ h => .inl h)⟩
  · go_simp
    clear hHeld
    refine hK.out _ _ ?hs (fun hHeld => ?_)
    case hs => (first | trivial | ((try dsimp only); go_keep) | ((try dsimp only); simp [*, World.cell?_alloc_some, World.cell?_setCell_far, World.cell?_setCell_other]))
    clear hK K
    try simp only [Act.put, List.setIfInBounds_toArray, List.set_cons_zero, List.set_cons_succ]
    refine wpAnyH_take (i := 18) (v := ?vvn20) rfl (by kernel_rfl) (by kernel_rfl) (by kernel_rfl) (fun _ _ _ h => h) (Or.inl ⟨by rfl, ?yyn20⟩) (by assumption) ?rrn20
    case yyn20 => (intro w' hSw; (try dsimp only at hSw); go_simp; (try with_reducible rfl))
    try simp only [Act.put, List.setIfInBounds_toArray, List.set_cons_zero, List.set_cons_succ]
    refine wpAnyH_ready (rs := [4, 19]) (by kernel_rfl) (by simp) (AllReadyH.cons rfl (fun K hK => ?_) (AllReadyH.cons rfl (fun K hK => ?_) AllReadyH.nil))
    · go_simp
      clear hHeld
      refine hK.out _ _ ?hs (fun hHeld => ?_)
      case hs => (first | trivial | ((try dsimp only); go_keep) | ((try dsimp only); simp [*, World.cell?_alloc_some, World.cell?_setCell_far, World.cell?_setCell_other]))
      clear hK K
      try simp only [Act.put, List.setIfInBounds_toArray, List.set_cons_zero, List.set_cons_succ]
      refine wpAnyH_ready (rs := [19]) (by kernel_rfl) (by simp) (AllReadyH.cons rfl (fun K hK => ?_) AllReadyH.nil)
      go_simp
      clear hHeld
      refine hK.out _ _ ?hs (fun hHeld => ?_)
      case hs => (first | trivial | ((try dsimp only); go_keep) | ((try dsimp only); simp [*, World.cell?_alloc_some, World.cell?_setCell_far, World.cell?_setCell_other]))
      clear hK K
      try simp only [Act.put, List.setIfInBounds_toArray, List.set_cons_zero, List.set_cons_succ]
      refine wpAnyH_ready (rs := [20]) (by kernel_rfl) (by simp) (AllReadyH.cons rfl (fun K hK => ?_) AllReadyH.nil)
      refine step_append rfl (.tmp 24) (.tmp 39) 63 rfl 130 (.agg #[.int .i64 0, .bool false, .int .i64 0, .bool false, .int .i64 0, .int .i64 0, .slice none 0 0, .slice none 0 0]) 8 96 Tryz.underlying63 Tryz.infoRC rfl (by decide) (.slice none 0 0) 0 [] (by simp [Act.eval]) (by exact hr1 _) ⟨U.heap.size + 1, 0, none⟩ 1 1 [.int .i64 0, .bool false, .int .i64 0, .bool false, .int .i64 0, .int .i64 0, .slice (some ⟨U.heap.size, 0, none⟩) n n, .slice none 0 0] (by simp [Act.eval]) rfl (by exact hAc) hr2 (by unfold maxLen; omega) (by omega) ?_
      intro v' w1 hrow1 hgrow hblk
      obtain ⟨g', cap', rfl⟩ := ownsRow_succ hrow1
      have hb3 := (hgrow.block q (by simp; omega) (by simp [Value.ownBlock])).trans hb2
      obtain ⟨d0, d1, d2, d3, df⟩ := four_cells hb3
      have hcA : Ch (fun _ => False) w w1 := (((hcU.al _).al _).dr).trans (Ch.grown (O := fun _ => False) hgrow (fun k hk => by simp [Value.ownBlock] at hk)) (fun _ h => .inl h)
      have hcA0 : Ch (fun _ => False) U w1 := ((((Ch.refl _ U).al _).al _).dr).trans (Ch.grown (O := fun _ => False) hgrow (fun k hk => by simp [Value.ownBlock] at hk)) (fun _ h => .inl h)
      have y0 := kcc hcA0 u0
      have y1 := kcc hcA0 u1
      have y2 := kcc hcA0 x0
      have y3 := kcc hcA0 x1
      have y4 := kcc hcA0 u3
      have y5 := kcc hcA0 us
      clear hgrow hblk hcA0
      clear hHeld
      refine hK.out _ _ ?hs (fun hHeld => ?_)
      case hs => (first | trivial | ((try dsimp only); go_keep) | ((try dsimp only); simp [*, World.cell?_alloc_some, World.cell?_setCell_far, World.cell?_setCell_other]))
      clear hK K
      try simp only [Act.put, List.setIfInBounds_toArray, List.set_cons_zero, List.set_cons_succ]
      refine wpAnyH_take (i := 21) (v := ?vvn21) rfl (by kernel_rfl) (by kernel_rfl) (by kernel_rfl) (fun _ _ _ h => h) (Or.inl ⟨by rfl, ?yyn21⟩) (by assumption) ?rrn21
      case yyn21 => (intro w' hSw; (try dsimp only at hSw); go_simp; (try with_reducible rfl))
      try simp only [Act.put, List.setIfInBounds_toArray, List.set_cons_zero, List.set_cons_succ]
      refine wpAnyH_take (i := 22) (v := ?vvn22) rfl (by kernel_rfl) (by kernel_rfl) (by kernel_rfl) (fun _ _ _ h => h) (Or.inl ⟨by rfl, ?yyn22⟩) (by assumption) ?rrn22
      case yyn22 => (intro w' hSw; (try dsimp only at hSw); go_simp; (try with_reducible rfl))
      try simp only [Act.put, List.setIfInBounds_toArray, List.set_cons_zero, List.set_cons_succ]
      refine wpAnyH_ready (rs := [23]) (by kernel_rfl) (by simp) (AllReadyH.cons rfl (fun K hK => ?_) AllReadyH.nil)
      go_simp
      clear hHeld
      refine hK.out _ _ ?hs (fun hHeld => ?_)
      case hs => (first | trivial | ((try dsimp only); go_keep) | ((try dsimp only); simp [*, World.cell?_alloc_some, World.cell?_setCell_far, World.cell?_setCell_other]))
      clear hK K
      try simp only [Act.put, List.setIfInBounds_toArray, List.set_cons_zero, List.set_cons_succ]
      refine wpAnyH_done (by kernel_rfl) ?_ _
      clear hHeld
      go_wp2
      go_end0
      exact ⟨rfl, (hcA.mono (fun _ h => h.elim)).trans (Ch.setCell (O := fun k => k = q) w1 ⟨q, 3, none⟩ _ rfl) (fun _ h => .inl h)⟩
    · go_simp
      clear hHeld
      refine hK.out _ _ ?hs (fun hHeld => ?_)
      case hs => (first | trivial | ((try dsimp only); go_keep) | ((try dsimp only); simp [*, World.cell?_alloc_some, World.cell?_setCell_far, World.cell?_setCell_other]))
      clear hK K
      try simp only [Act.put, List.setIfInBounds_toArray, List.set_cons_zero, List.set_cons_succ]
      refine wpAnyH_ready (rs := [4]) (by kernel_rfl) (by simp) (AllReadyH.cons rfl (fun K hK => ?_) AllReadyH.nil)
      go_simp
      clear hHeld
      refine hK.out _ _ ?hs (fun hHeld => ?_)
      case hs => (first | trivial | ((try dsimp only); go_keep) | ((try dsimp only); simp [*, World.cell?_alloc_some, World.cell?_setCell_far, World.cell?_setCell_other]))
      clear hK K
      try simp only [Act.put, List.setIfInBounds_toArray, List.set_cons_zero, List.set_cons_succ]
      refine wpAnyH_ready (rs := [20]) (by kernel_rfl) (by simp) (AllReadyH.cons rfl (fun K hK => ?_) AllReadyH.nil)
      refine step_append rfl (.tmp 24) (.tmp 39) 63 rfl 130 (.agg #[.int .i64 0, .bool false, .int .i64 0, .bool false, .int .i64 0, .int .i64 0, .slice none 0 0, .slice none 0 0]) 8 96 Tryz.underlying63 Tryz.infoRC rfl (by decide) (.slice none 0 0) 0 [] (by simp [Act.eval]) (by exact hr1 _) ⟨U.heap.size + 1, 0, none⟩ 1 1 [.int .i64 0, .bool false, .int .i64 0, .bool false, .int .i64 0, .int .i64 0, .slice (some ⟨U.heap.size, 0, none⟩) n n, .slice none 0 0] (by simp [Act.eval]) rfl (by exact hAc) hr2 (by unfold maxLen; omega) (by omega) ?_
      intro v' w1 hrow1 hgrow hblk
      obtain ⟨g', cap', rfl⟩ := ownsRow_succ hrow1
      have hb3 := (hgrow.block q (by simp; omega) (by simp [Value.ownBlock])).trans hb2
      obtain ⟨d0, d1, d2, d3, df⟩ := four_cells hb3
      have hcA : Ch (fun _ => False) w w1 := (((hcU.al _).al _).dr).trans (Ch.grown (O := fun _ => False) hgrow (fun k hk => by simp [Value.ownBlock] at hk)) (fun _ h => .inl h)
      have hcA0 : Ch (fun _ => False) U w1 := ((((Ch.refl _ U).al _).al _).dr).trans (Ch.grown (O := fun _ => False) hgrow (fun k hk => by simp [Value.ownBlock] at hk)) (fun _ h => .inl h)
      have y0 := kcc hcA0 u0
      have y1 := kcc hcA0 u1
      have y2 := kcc hcA0 x0
      have y3 := kcc hcA0 x1
      have y4 := kcc hcA0 u3
      have y5 := kcc hcA0 us
      clear hgrow hblk hcA0
      clear hHeld
      refine hK.out _ _ ?hs (fun hHeld => ?_)
      case hs => (first | trivial | ((try dsimp only); go_keep) | ((try dsimp only); simp [*, World.cell?_alloc_some, World.cell?_setCell_far, World.cell?_setCell_other]))
      clear hK K
      try simp only [Act.put, List.setIfInBounds_toArray, List.set_cons_zero, List.set_cons_succ]
      refine wpAnyH_take (i := 21) (v := ?vvn23) rfl (by kernel_rfl) (by kernel_rfl) (by kernel_rfl) (fun _ _ _ h => h) (Or.inl ⟨by rfl, ?yyn23⟩) (by assumption) ?rrn23
      case yyn23 => (intro w' hSw; (try dsimp only at hSw); go_simp; (try with_reducible rfl))
      try simp only [Act.put, List.setIfInBounds_toArray, List.set_cons_zero, List.set_cons_succ]
      refine wpAnyH_take (i := 22) (v := ?vvn24) rfl (by kernel_rfl) (by kernel_rfl) (by kernel_rfl) (fun _ _ _ h => h) (Or.inl ⟨by rfl, ?yyn24⟩) (by assumption) ?rrn24
      case yyn24 => (intro w' hSw; (try dsimp only at hSw); go_simp; (try with_reducible rfl))
      try simp only [Act.put, List.setIfInBounds_toArray, List.set_cons_zero, List.set_cons_succ]
      refine wpAnyH_ready (rs := [23]) (by kernel_rfl) (by simp) (AllReadyH.cons rfl (fun K hK => ?_) AllReadyH.nil)
      go_simp
      clear hHeld
      refine hK.out _ _ ?hs (fun hHeld => ?_)
      case hs => (first | trivial | ((try dsimp only); go_keep) | ((try dsimp only); simp [*, World.cell?_alloc_some, World.cell?_setCell_far, World.cell?_setCell_other]))
      clear hK K
      try simp only [Act.put, List.setIfInBounds_toArray, List.set_cons_zero, List.set_cons_succ]
      refine wpAnyH_done (by kernel_rfl) ?_ _
      clear hHeld
      go_wp2
      go_end0
      exact ⟨rfl, (hcA.mono (fun _ h => h.elim)).trans (Ch.setCell (O := fun k => k = q) w1 ⟨q, 3, none⟩ _ rfl) (fun _ h => .inl h)⟩
end Go.Proofs.YtpjbfdpblgjmfaaGreatDoor
