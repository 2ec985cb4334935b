/-
  Ranging over the frames of a row.
-/
import Derived.Test.YtpjbfdpblgjmfaaGreatDoorMZ
set_option linter.unusedVariables false
set_option linter.unusedSimpArgs false
namespace Go.Proofs.YtpjbfdpblgjmfaaGreatDoor
open Go.RowKit Go.Shelf
attribute [local go_sem] Oper.semAt_some

/-- Frames with their segments' numbers; tags likewise. -/
def flatF : Nat → List Sg → List (Int × Option Addr)
  | _, [] => []
  | i, s :: r => s.l.map (fun f => ((i : Int), f)) ++ flatF (i + 1) r
def flatT : Nat → List Sg → List (Int × Option Addr)
  | _, [] => []
  | i, s :: r => (if s.has then [((i : Int), s.tag)] else []) ++ flatT (i + 1) r
theorem flatF_append (i : Nat) (a b : List Sg) : flatF i (a ++ b) = flatF i a ++ flatF (i + a.length) b := by
  induction a generalizing i with
  | nil => simp [flatF]
  | cons s r ih => simp [flatF, ih]; rw [show i + 1 + r.length = i + (r.length + 1) by omega]
theorem flatT_append (i : Nat) (a b : List Sg) : flatT i (a ++ b) = flatT i a ++ flatT (i + a.length) b := by
  induction a generalizing i with
  | nil => simp [flatT]
  | cons s r ih => simp [flatT, ih]; rw [show i + 1 + r.length = i + (r.length + 1) by omega]

theorem take_at {α : Type} {L : List α} {n : Nat} {s : α} (h : L[n]? = some s) : L = L.take n ++ s :: L.drop (n + 1) ∧ L.take (n + 1) = L.take n ++ [s] ∧ n < L.length := by
  obtain ⟨hl, rfl⟩ := List.getElem?_eq_some_iff.1 h
  exact ⟨by rw [← List.drop_eq_getElem_cons hl, List.take_append_drop], by rw [List.take_succ_eq_append_getElem hl], hl⟩
theorem flatF_at {L : List Sg} {n : Nat} {s : Sg} (h : L[n]? = some s) :
    flatF 0 L = flatF 0 (L.take n) ++ (s.l.map (fun f => ((n : Int), f)) ++ flatF (n + 1) (L.drop (n + 1))) ∧ flatF 0 (L.take (n + 1)) = flatF 0 (L.take n) ++ s.l.map (fun f => ((n : Int), f)) := by
  obtain ⟨h1, h2, h3⟩ := take_at h
  have e : (L.take n).length = n := by simp; omega
  constructor
  · conv => lhs; rw [h1]
    rw [flatF_append, e]
    simp [flatF]
  · rw [h2, flatF_append, e]
    simp [flatF]
theorem flatT_at {L : List Sg} {n : Nat} {s : Sg} (h : L[n]? = some s) :
    flatT 0 L = flatT 0 (L.take n) ++ ((if s.has then [((n : Int), s.tag)] else []) ++ flatT (n + 1) (L.drop (n + 1))) ∧ flatT 0 (L.take (n + 1)) = flatT 0 (L.take n) ++ (if s.has then [((n : Int), s.tag)] else []) := by
  obtain ⟨h1, h2, h3⟩ := take_at h
  have e : (L.take n).length = n := by simp; omega
  constructor
  · conv => lhs; rw [h1]
    rw [flatT_append, e]
    simp [flatT]
  · rw [h2, flatT_append, e]
    simp [flatT]

theorem SegAt.keep {w w' : World} {c o : Nat} {g : Sn} (h : SegAt w c o g) (hs : w'.heap[c]? = w.heap[c]?) : SegAt w' c o g := by
  obtain ⟨h0, h1, h2, h3⟩ := h
  refine ⟨?_, ?_, ?_, ?_⟩ <;> simp only [World.cell?, hs] <;> assumption

/-- A row of segments S and z from the block b on: what it reads lies in D. -/
structure RowAt (D : Nat → Prop) (w : World) (b : Nat) (S : List Sn) (z : Sn) (a : Option Addr) (cap : Nat) (g : Nat) (cnt : Int) : Prop where
  fv : w.cell? ⟨b, 0, none⟩ = some (.slice a S.length cap)
  fa : S.length = 0 ∨ a = some ⟨g, 0, none⟩
  fz : SegAt w b 1 z
  fc : w.cell? ⟨b, 5, none⟩ = some (.int .i64 cnt)
  fs : ∀ (i : Nat) (x : Sn), S[i]? = some x → SegAt w g (i * 4) x
  ch : ∀ x ∈ S ++ [z], Chain D w x.p x.s.l.reverse
  db : D b
  dg : S.length = 0 ∨ D g
theorem RowAt.keep {D D' : Nat → Prop} {w w' : World} {b : Nat} {S : List Sn} {z : Sn} {a : Option Addr} {cap g : Nat} {cnt : Int} (h : RowAt D w b S z a cap g cnt) (hD : ∀ k, D k → D' k) (hs : ∀ k, D k → w'.heap[k]? = w.heap[k]?) : RowAt D' w' b S z a cap g cnt := by
  have hb := hs b h.db
  refine ⟨?_, h.fa, h.fz.keep hb, ?_, fun i x hx => (h.fs i x hx).keep (hs g ?_), fun x hx => (h.ch x hx).keep hD hs, hD b h.db, h.dg.imp_right (hD g)⟩
  · have := h.fv; simp only [World.cell?, hb] at this ⊢; exact this
  · have := h.fc; simp only [World.cell?, hb] at this ⊢; exact this
  · rcases h.dg with e | e
    · rw [List.length_eq_zero_iff] at e; subst e; simp at hx
    · exact e
/-- The segment that a place tells. -/
theorem RowAt.place {D : Nat → Prop} {w : World} {b : Nat} {S : List Sn} {z : Sn} {a : Option Addr} {cap g : Nat} {cnt : Int} (h : RowAt D w b S z a cap g cnt) {b' : Nat} (hz : SegAt w b' 1 z) {i : Nat} (hi : i < S.length + 1) :
    ∃ x c o, (S ++ [z])[i]? = some x ∧ (if i = S.length then (⟨b', 1, none⟩ : Addr) else ⟨g, i * 4, none⟩) = ⟨c, o, none⟩ ∧ SegAt w c o x ∧ Chain D w x.p x.s.l.reverse ∧ (c = b' ∨ D c) := by
  by_cases e : i = S.length
  · subst e
    exact ⟨z, b', 1, by simp, by simp, hz, h.ch z (by simp), .inl rfl⟩
  · have hlt : i < S.length := by omega
    refine ⟨S[i], g, i * 4, by rw [List.getElem?_append_left hlt]; simp, by simp [e], h.fs i _ (by simp), h.ch _ (by simp), .inr ?_⟩
    rcases h.dg with e | e
    · omega
    · exact e

abbrev pairV (x : Int × Option Addr) : Array Value := #[.int .i64 x.1, .pointer x.2]

set_option maxRecDepth 100000 in
set_option maxHeartbeats 4000000 in
theorem All1_goes (w : World) (D : Nat → Prop) (B b : Nat) (S : List Sn) (z : Sn) (a : Option Addr) (cap g : Nat) (cnt : Int) (hB : w.cell? ⟨B, 0, none⟩ = some (.pointer (some ⟨b, 0, none⟩))) (hDB : D B)
    (hDl : ∀ k, D k → k < w.heap.size) (h : RowAt D w b S z a cap g cnt) (hn : S.length < 1000000000) (hlen : ∀ x ∈ S ++ [z], x.s.l.length < 1000000000) :
    Goes Tryz.prog 77 #[] #[.pointer (some ⟨B, 0, none⟩)] pairV (flatF 0 ((S ++ [z]).map Sn.s)) D w := by
  intro l J O hJ hDO hY h0
  obtain ⟨hz0, hz1, hz2, hz3⟩ := h.fz
  have hv := h.fv
  have hcnt := h.fc
  have hBl : B < w.heap.size := block_lt_of_cell hB
  refine callsIn_of_wp_marks Tryz.func77 rfl trivial ?_ rfl
  simp only [Tryz.ntmps77, List.size_toArray, List.length_cons, List.length_nil, Nat.reduceAdd, Nat.reduceSub, Array.replicate_succ, Array.replicate_zero, List.push_toArray, List.append_toArray, List.nil_append, List.cons_append]
  have hbl : b < w.heap.size := block_lt_of_cell hv
  have ka : ∀ (X : Obj) (o : Nat), (w.alloc X).cell? ⟨b, o, none⟩ = w.cell? ⟨b, o, none⟩ := fun X o => (Ch.alloc (fun _ => False) w X).cell (p := ⟨b, o, none⟩) hbl (fun h => h)
  have kB : ∀ (X : Obj), (w.alloc X).cell? ⟨B, 0, none⟩ = w.cell? ⟨B, 0, none⟩ := fun X => (Ch.alloc (fun _ => False) w X).cell (p := ⟨B, 0, none⟩) hBl (fun h => h)
  have d0 := (ka (.cells #[.func (.yield l) #[] #[]] 193) 0).trans hv
  have d1 := (ka (.cells #[.func (.yield l) #[] #[]] 193) 1).trans hz0
  have d2 := (ka (.cells #[.func (.yield l) #[] #[]] 193) 2).trans hz1
  have d3 := (ka (.cells #[.func (.yield l) #[] #[]] 193) 3).trans hz2
  have d4 := (ka (.cells #[.func (.yield l) #[] #[]] 193) 4).trans hz3
  have d5 := (ka (.cells #[.func (.yield l) #[] #[]] 193) 5).trans hcnt
  have dB := (kB (.cells #[.func (.yield l) #[] #[]] 193)).trans hB
  clear ka kB
  gi_wp2_with (refine ⟨trivial, rfl, (callsIn_wide.2 (all_any _ _ _ _ _ _ _)).mono ?_⟩; rintro e w' ⟨rfl, rfl⟩; dsimp only)
  obtain ⟨W0, hW0⟩ : ∃ W0, (w.alloc (.cells #[.func (.yield l) #[] #[]] 193)).alloc (.cells #[.slice a S.length cap, .pointer z.p, .int .i64 z.s.l.length, .pointer z.s.tag, .bool z.s.has, .int .i64 cnt] 99) = W0 := ⟨_, rfl⟩
  have hc0 : Ch (fun _ => False) w W0 := by rw [← hW0]; exact (Ch.alloc _ _ _).trans (Ch.alloc _ _ _) (fun i h => .inl h)
  have hs0 : W0.heap.size = w.heap.size + 2 := by rw [← hW0]; simp
  have b0 : W0.heap[w.heap.size]? = some (.cells #[.func (.yield l) #[] #[]] 193 (0, 0)) := by
    rw [← hW0]; exact (Below.heap_alloc _ _ _ (by simp)).trans (World.alloc_heap_new w _)
  have b1 : W0.heap[w.heap.size + 1]? = some (.cells #[.slice a S.length cap, .pointer z.p, .int .i64 z.s.l.length, .pointer z.s.tag, .bool z.s.has, .int .i64 cnt] 99 (0, 0)) := by
    rw [← hW0]; have := World.alloc_heap_new (w.alloc (.cells #[.func (.yield l) #[] #[]] 193)) (.cells #[.slice a S.length cap, .pointer z.p, .int .i64 z.s.l.length, .pointer z.s.tag, .bool z.s.has, .int .i64 cnt] 99); rwa [World.size_alloc] at this
  simp only [World.size_alloc]
  rw [hW0]
  clear hW0 d0 d1 d2 d3 d4 d5 dB
  have hR0 : RowAt D W0 b S z a cap g cnt := h.keep (fun _ h => h) (fun k hk => hc0.same k (hDl k hk) (fun h => h))
  have hO : ∀ k, O k → k < w.heap.size := fun k hk => hJ.lt _ _ _ _ h0 hk
  refine wp_range (gf := 102) (bd := #[]) (lb := #[.pointer (some ⟨w.heap.size + 1, 0, none⟩)]) (encs := placeV) (xs := places (w.heap.size + 1) g S.length) (D := fun k => k = w.heap.size + 1) (O := O) rfl (enters_of Tryz.func102 (by kernel_rfl) rfl)
    (fun W1 hc1 => all1_goes W1 (w.heap.size + 1) g S.length a cap ?c1 h.fa (by omega)) (fun k hk => by omega) (fun _ => rfl) (fun k hk hk2 => by have := hO k hk2; omega)
    (fun pre O1 W => J (flatF 0 (((S ++ [z]).map Sn.s).take pre.length)) O1 W)
    ⟨fun s O' X Y hs heo hsz hsm => hJ.keep _ _ _ _ hs heo hsz (fun k hk => hsm k (hk.imp_right (fun h => by omega))), fun s O' X k hs hk => hJ.lt _ _ _ _ hs hk⟩
    (hJ.keep _ _ _ _ h0 hc0.eo hc0.size (fun k hk => hc0.same k (by rcases hk with h | h; exact hO k h; exact h) (fun h => h)))
    (fun x => { tmps := #[.func (.yield l) #[] #[], .pointer (some ⟨B, 0, none⟩), .pointer (some ⟨w.heap.size, 0, none⟩), .int .i64 x.1, .pointer (some x.2), undef, undef, .pointer (some ⟨b, 0, none⟩), .pointer (some ⟨b, 0, none⟩), rowV (.slice a S.length cap) (.pointer z.p) (.int .i64 z.s.l.length) (.pointer z.s.tag) (.bool z.s.has) (.int .i64 cnt), .func (.func 102) #[] #[.pointer (some ⟨w.heap.size + 1, 0, none⟩)], .int .i64 x.1, .pointer (some x.2), undef, undef, undef, undef, undef, undef, undef, undef, undef, undef, undef, undef, undef], defers := [] })
    ?assign ?body ?done
  case c1 => simp [World.cell?, (hc1.same (w.heap.size + 1) (by omega) (fun h => h)).trans b1]
  case assign =>
    intro l2 x W K hK
    simp only [placeV, List.zip_toArray, List.foldl_toArray, List.zip_cons_cons, List.zip_nil_right, List.foldl_cons, List.foldl_nil, List.setIfInBounds_toArray, List.set_cons_zero, List.set_cons_succ]
    gi_wp2
    exact hK
  case body =>
    rintro l2 pre x O1 W hJ1 ⟨rest, hx⟩ hD1 hc
    rw [hs0] at hD1
    obtain ⟨i, q⟩ := x
    have hi : pre.length < S.length + 1 := by
      have := congrArg List.length hx
      simp [places] at this
      omega
    have hxi : (i, q) = (pre.length, if pre.length = S.length then (⟨w.heap.size + 1, 1, none⟩ : Addr) else ⟨g, pre.length * 4, none⟩) := by
      have e1 : (places (w.heap.size + 1) g S.length)[pre.length]? = some (i, q) := by rw [hx]; simp
      rw [← Option.some_inj, ← e1]
      simp [places, hi]
    have hz9 : SegAt W0 (w.heap.size + 1) 1 z := ⟨by simp [World.cell?, b1], by simp [World.cell?, b1], by simp [World.cell?, b1], by simp [World.cell?, b1]⟩
    obtain ⟨x, c, o, hxx, hq, hseg, hchn, hcc⟩ := hR0.place hz9 hi
    rw [hq] at hxi
    obtain ⟨rfl, rfl⟩ := Prod.mk.inj hxi
    have hcl : c < W0.heap.size ∧ ¬ O c := by
      rcases hcc with e | e
      · subst e; exact ⟨by omega, fun h => by have := hO _ h; omega⟩
      · exact ⟨by have := hDl c e; omega, hDO c e⟩
    have hseg1 : SegAt W c o x := hseg.keep (hc.same c hcl.1 hcl.2)
    have hch1 : Chain D W x.p x.s.l.reverse := hchn.keep (fun _ h => h) (fun k hk => hc.same k (by have := hDl k hk; omega) (hDO k hk))
    have hll := hlen x (List.mem_of_getElem? hxx)
    have hfr := frames_any W D c o x hseg1 hch1 hll
    have hO1 : ∀ k, O1 k → k < W.heap.size := fun k hk => hJ.lt _ _ _ _ hJ1 hk
    have hb0 : W.heap[w.heap.size]? = some (.cells #[.func (.yield l) #[] #[]] 193 (0, 0)) := (hc.same _ (by omega) (fun h => by have := hO _ h; omega)).trans b0
    have hb0s : w.heap.size < W.heap.size := (Array.getElem?_eq_some_iff.1 hb0).1
    clear hseg hchn hz9 hx
    gi_wp2_with (refine ⟨trivial, rfl, (CallsIn.inRound l2 (callsIn_wide.2 hfr)).mono ?_⟩; clear hfr; rintro e W2 ⟨rfl, hrow, hcf⟩; dsimp only)
    have hsx : ((S ++ [z]).map Sn.s)[pre.length]? = some x.s := by rw [List.getElem?_map, hxx]; rfl
    obtain ⟨hfl, hfl2⟩ := flatF_at hsx
    obtain ⟨T, hT⟩ : ∃ T, flatF 0 (((S ++ [z]).map Sn.s).take pre.length) = T := ⟨_, rfl⟩
    obtain ⟨R9, hR9⟩ : ∃ R9, flatF (pre.length + 1) (((S ++ [z]).map Sn.s).drop (pre.length + 1)) = R9 := ⟨_, rfl⟩
    rw [hT] at hJ1 hfl hfl2
    rw [hR9] at hfl
    clear hT hR9 hsx
    obtain ⟨L, hL⟩ : ∃ L, x.s.l = L := ⟨_, rfl⟩
    rw [hL] at hfl hfl2 hrow hll ⊢
    have hWs : W.heap.size < W2.heap.size := (Array.getElem?_eq_some_iff.1 hrow).1
    gi_loopw [16] (fun i wr => ∃ (m : Nat) (O2 : Nat → Prop), i = .int .i64 m ∧ m ≤ L.length ∧ J (T ++ (L.take m).map (fun f => ((pre.length : Int), f))) O2 wr ∧ Ch O1 W2 wr ∧ (∀ j, O2 j → O1 j ∨ W2.heap.size ≤ j)) (fun i _ => L.length - (intOf i).toNat)
    case atStart =>
      exact ⟨0, O1, rfl, by omega, by simpa using hJ.keep _ _ _ _ hJ1 hcf.eo hcf.size (fun k hk => hcf.same k (by rcases hk with h | h; exact hO1 k h; omega) (fun h => h)), Ch.refl _ _, fun _ h => .inl h⟩
    case round =>
      obtain ⟨m, O2, rfl, hm, hJm, hcm, hsm⟩ := hrel
      have hrow' : wr.heap[W.heap.size]? = some (.cells (L.map Value.pointer).toArray 53 (0, 0)) := (hcm.same _ hWs (fun h => by have := hO1 _ h; omega)).trans hrow
      have hyb : wr.cell? ⟨w.heap.size, 0, none⟩ = some (.func (.yield l) #[] #[]) := by
        have e2 := (hcf.same w.heap.size hb0s (fun h => h)).trans hb0
        have e3 := (hcm.same w.heap.size (by omega) (fun h => ?_)).trans e2
        · simp [World.cell?, e3]
        · rcases hD1 _ h with h | h
          · have := hO _ h; omega
          · omega
      by_cases e : m = L.length
      · subst e
        gi_wp2
        refine ⟨O2, ?_, (hcf.mono (fun i h => h.elim)).trans hcm (fun i h => .inl h), fun k hk => ?_⟩
        · rw [show List.map Sn.s S ++ [z.s] = (S ++ [z]).map Sn.s by simp, hfl2]; simpa using hJm
        · rcases hsm k hk with h | h
          · exact .inl h
          · exact .inr (by omega)
      · have hlt : m < L.length := by omega
        have hw : IntKind.i64.wrap ((m : Int) + 1) = ((m + 1 : Nat) : Int) := by rw [IntWalk.i64_in _ (by omega)]; omega
        obtain ⟨f, hf⟩ : ∃ f, L[m]? = some f := ⟨L[m], by simp⟩
        obtain ⟨t1, t2, t3⟩ := take_at hf
        obtain ⟨fn, tmps, assign, body, hy, hR⟩ := hY _ ((pre.length : Int), f) O2 wr hJm ⟨(L.drop (m + 1)).map (fun f => ((pre.length : Int), f)) ++ R9, by
          rw [hfl]; conv => lhs; rw [t1]
          simp⟩
        have hcell : wr.cell? ⟨W.heap.size, m, none⟩ = some (.pointer f) := by simp [World.cell?, hrow', hf]
        have hcond : (m : Int) < (L.length : Int) := by omega
        dsimp only [pairV] at hy
        clear hrow' hfl t1
        have t2 := hid t2
        gi_wp2
        refine ⟨rfl, hR.mono ?_⟩
        rintro e W3 ⟨rfl, O3, hJ3, hc3, hs3⟩
        dsimp only
        gi_wp2
        go_roundw
        case rel =>
          refine ⟨m + 1, O3, by simp, by omega, ?_, hcm.trans hc3 hsm, fun j hj => ?_⟩
          · rw [t2.out]; simpa using hJ3
          · rcases hs3 j hj with h | h
            · exact hsm j h
            · have := hcm.size; exact .inr (by omega)
        case measure => simp [intOf]; omega
  case done =>
    rintro D1 O2 W hD1 hO2 hJ2 hc2 hs2 hk
    have e : (places (w.heap.size + 1) g S.length).length = S.length + 1 := by simp [places]
    rw [e, List.take_of_length_le (by simp)] at hJ2
    gi_wp2
    refine ⟨by simp, .inl ⟨_, _, rfl, run_takeDeferred hk, ?_⟩⟩
    have hD1l : D1 < W.heap.size := (Array.getElem?_eq_some_iff.1 hk).1
    have hc4 : Ch (fun k => k = D1) W (W.putObj D1 (.deferred none)) := Ch.put _ _ _ rfl
    refine ⟨_, results_none rfl _ _ _, ⟨_, rfl⟩, O2, hJ.keep _ _ _ _ hJ2 hc4.eo hc4.size (fun k hk2 => hc4.same k ?_ (fun e => ?_)), (hc0.mono (fun i h => h.elim)).trans (hc2.trans hc4 (fun i e => .inr (by omega))) (fun i h => .inl h), fun k h => (hs2 k h).imp_right (fun h => by omega)⟩
    · rcases hk2 with h | h
      · exact hJ.lt _ _ _ _ hJ2 h
      · have := hc2.size; omega
    · rcases hk2 with h | h
      · exact hO2 (e ▸ h)
      · omega
end Go.Proofs.YtpjbfdpblgjmfaaGreatDoor
