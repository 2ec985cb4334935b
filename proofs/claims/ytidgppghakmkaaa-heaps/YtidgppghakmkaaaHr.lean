/-
  The program's roots: reach, follow.
-/
import Derived.Test.YtidgppghakmkaaaHq
set_option linter.unusedVariables false
set_option linter.unusedSimpArgs false
namespace Go.Proofs.Ytidgppghakmkaaa
open Go.RowKit Hp

/-- A root lies in the block cb, at co. -/
structure RootAt (w : World) (cb co : Nat) (arr : Array Value) (ty : TypeId) (b : Bool) (n : Int) : Prop where
  blk : w.heap[cb]? = some (.cells arr ty (0, 0))
  ptr : arr[co]? = some (.bool b)
  num : arr[co + 1]? = some (.int .i64 n)
theorem RootAt.cells {w : World} {cb co : Nat} {arr : Array Value} {ty : TypeId} {b : Bool} {n : Int} (h : RootAt w cb co arr ty b n) : w.cell? ⟨cb, co, none⟩ = some (.bool b) ∧ w.cell? ⟨cb, co + 1, none⟩ = some (.int .i64 n) ∧ ∀ i, w.frozen? ⟨cb, i, none⟩ = false := by
  have h1 := h.blk
  have h2 := h.ptr
  have h3 := h.num
  refine ⟨?_, ?_, fun i => ?_⟩ <;> simp [World.cell?, World.frozen?, h1, h2, h3]
theorem RootAt.keep {w w' : World} {O : Nat → Prop} {cb co : Nat} {arr : Array Value} {ty : TypeId} {b : Bool} {n : Int} (h : RootAt w cb co arr ty b n) (hc : Ch O w w') (ho : ¬ O cb) : RootAt w' cb co arr ty b n :=
  ⟨(hc.same cb (Array.getElem?_eq_some_iff.1 h.blk).1 ho).trans h.blk, h.ptr, h.num⟩
theorem HM.other {w : World} {hb g N : Nat} {f : Nat → PC} {u : Nat} (H : HM w hb g N f u) {a : Addr} (v : Value) (h1 : a.block ≠ g) (h2 : a.block ≠ hb) : HM (w.setCell a v) hb g N f u :=
  ⟨blk_other H.hd (Ne.symm h2), blk_other H.row (Ne.symm h1), H.ne, H.le, H.max⟩
def farN : Int := 4611686018427387904

set_option maxRecDepth 100000 in
set_option maxHeartbeats 4000000 in
/-- A root that refers to nothing. -/
theorem reach_none (w : World) (hb g N : Nat) (f : Nat → PC) (u : Nat) (H : HM w hb g N f u) (cb co : Nat) (arr : Array Value) (ty : TypeId) (b : Bool) (n : Int) (HR : RootAt w cb co arr ty b n) (hn : b = false ∨ liesF f u n = false) :
    Calls Try.prog 21 #[.pointer (some ⟨hb, 0, none⟩), .pointer (some ⟨cb, co, none⟩)] w fun e w' => e = .returned (.tuple #[]) ∧ Ch (fun _ => False) w w' := by
  obtain ⟨c0, c1, -⟩ := HR.cells
  have HL := lies_any w hb g N f u H n
  clear H HR
  cases b with
  | false =>
    clear HL
    go_enter Try.func21, Try.ntmps21
    go_wp2
    refine bodyPost_ret (results_none rfl _ _ _) rfl ?_
    exact ⟨rfl, Ch.refl _ _⟩
  | true =>
    have hl : liesF f u n = false := by rcases hn with h | h; cases h; exact h
    rw [hl] at HL
    clear hn hl
    go_enter Try.func21, Try.ntmps21
    go_wp2_with (go_at_call 31; refine HL.mono ?_; clear HL; rintro e w9 ⟨rfl, hw9⟩; obtain rfl := hw9.symm)
    refine bodyPost_ret (results_none rfl _ _ _) rfl ?_
    exact ⟨rfl, Ch.refl _ _⟩

set_option maxRecDepth 100000 in
set_option maxHeartbeats 8000000 in
/-- A root that refers to a thing. -/
theorem reach_some (w : World) (hb g N : Nat) (T : List Th) (R : Nat → Prop) (p : Nat → Option Nat) (k : Nat) (t : Th) (f : Nat → PC) (H : HM w hb g N f (used T)) (hL : Lay T f (gM T ⟨p, []⟩)) (hI : Inv T R ⟨p, []⟩) (ht : T[k]? = some t) (hwf : WF T) (hR : R k) (hRc : ∀ i u j m, R i → T[i]? = some u → j < u.l.length → (clOf T i j).ptr = true → Is T (clOf T i j).n m → R m)
    (cb co : Nat) (arr : Array Value) (ty : TypeId) (HR : RootAt w cb co arr ty true (ad T k : Nat)) (hcg : cb ≠ g) (hch : cb ≠ hb) :
    Calls Try.prog 21 #[.pointer (some ⟨hb, 0, none⟩), .pointer (some ⟨cb, co, none⟩)] w fun e w' => e = .returned (.tuple #[]) ∧ (∃ f' p', HM w' hb g N f' (used T) ∧ Lay T f' (gM T ⟨p', []⟩) ∧ Inv T R ⟨p', []⟩ ∧ (∀ i, p i ≠ none → p' i ≠ none) ∧ p' k ≠ none) ∧ w'.heap[cb]? = some (.cells (arr.setIfInBounds (co + 1) (.int .i64 ((ad T k : Nat) + farN))) ty (0, 0)) ∧ Ch (fun k => k = g ∨ k = cb) w w' := by
  obtain ⟨c0, c1, cf⟩ := HR.cells
  have hu := ad_used ht
  have hs : t.size = t.l.length + 1 := rfl
  have hle := H.le
  have hmx := H.max
  have haN : ad T k < N := by omega
  have haNI : ((ad T k : Nat) : Int) < (N : Int) := by omega
  have hhd := lay_head hL ht
  have HL := lies_any w hb g N f (used T) H ((ad T k : Nat) : Int)
  have hlt : liesF f (used T) ((ad T k : Nat) : Int) = true := by
    have h1 : ad T k < used T := by omega
    simp only [liesF, Int.toNat_natCast, hhd]
    by_cases hp : p k = none <;> simp [h1, hp]
  rw [hlt] at HL
  obtain ⟨h0, h1, -⟩ := H.head
  obtain ⟨d0, -⟩ := H.five haN
  rw [hhd] at d0
  have hw1 : IntKind.i64.wrap (((ad T k : Nat) : Int) + 4611686018427387904) = ((ad T k : Nat) : Int) + 4611686018427387904 := IntWalk.i64_in _ (by omega)
  have HH := hid H
  have HRh := hid HR
  have hwf' := hid hwf
  have hRc' := hid hRc
  have hL' := hid hL
  have hI' := hid hI
  clear H hL hI hwf hRc hhd hlt HR
  cases hk : p k with
  | none =>
    simp only [hk, if_true] at d0
    go_enter Try.func21, Try.ntmps21
    go_wp2_with (go_at_call 31; refine HL.mono ?_; clear HL; rintro e w9 ⟨rfl, hw9⟩; obtain rfl := hw9.symm)
    go_quiet (fail)
    have HV : HM (w.drewN nq) hb g N f (used T) := ⟨HH.out.hd, HH.out.row, HH.out.ne, HH.out.le, HH.out.max⟩
    have hCV : Ch (fun k => k = g ∨ k = cb) w (w.drewN nq) := ⟨Nat.le_refl _, fun _ _ _ => rfl, rfl, rfl⟩
    have HRV : RootAt (w.drewN nq) cb co arr ty true (ad T k : Nat) := ⟨HRh.out.blk, HRh.out.ptr, HRh.out.num⟩
    clear HH HRh h0 h1 c0 c1 cf d0
    generalize w.drewN nq = V at HV hCV HRV ⊢
    have HM1 := mark_any V hb g N T R p k t f HV hL'.out hI'.out hk ht hwf'.out hR hRc'.out
    replace hCV := hid hCV
    obtain ⟨c0, c1, -⟩ := HRV.cells
    replace HRV := hid HRV
    clear HV hwf' hRc' hL' hI'
    go_wp2_with (go_at_call 32; refine HM1.mono ?_; clear HM1 c0 c1; rintro e w2 ⟨rfl, hm2, hc2⟩; have HR2 := HRV.out.keep hc2 hcg; obtain ⟨-, c1, cf⟩ := HR2.cells; replace cf := cf (co + 1); replace hm2 := hid hm2; replace hc2 := hid hc2; replace HR2 := hid HR2; clear HRV)
    go_end0
    obtain ⟨f', p', H2, hm⟩ := hm2.out
    exact ⟨rfl, ⟨f', p', H2.other _ hcg hch, hm⟩, blk_set HR2.out.blk, (hCV.out.trans hc2.out (fun _ h => .inl (.inl h))).set (a := ⟨cb, co + 1, none⟩) (.inr rfl) _⟩
  | some q =>
    simp only [hk, reduceCtorEq, if_false] at d0
    replace cf := cf (co + 1)
    go_enter Try.func21, Try.ntmps21
    go_wp2_with (go_at_call 31; refine HL.mono ?_; clear HL; rintro e w9 ⟨rfl, hw9⟩; obtain rfl := hw9.symm)
    go_quiet (fail)
    go_wp2
    go_end0
    have HV : HM (w.drewN nq) hb g N f (used T) := ⟨HH.out.hd, HH.out.row, HH.out.ne, HH.out.le, HH.out.max⟩
    have hCV : Ch (fun k => k = g ∨ k = cb) w (w.drewN nq) := ⟨Nat.le_refl _, fun _ _ _ => rfl, rfl, rfl⟩
    have hB : (w.drewN nq).heap[cb]? = some (.cells arr ty (0, 0)) := HRh.out.blk
    exact ⟨rfl, ⟨f, p, HV.other _ hcg hch, hL'.out, hI'.out, fun _ h => h, by rw [hk]; simp⟩, blk_set hB, hCV.set (a := ⟨cb, co + 1, none⟩) (.inr rfl) _⟩

set_option maxRecDepth 100000 in
set_option maxHeartbeats 4000000 in
/-- A root that was not seen stays. -/
theorem follow_none (w : World) (hb g N : Nat) (f : Nat → PC) (u : Nat) (H : HM w hb g N f u) (cb co : Nat) (arr : Array Value) (ty : TypeId) (b : Bool) (n : Int) (HR : RootAt w cb co arr ty b n) (hn : b = false ∨ n < farN) :
    Calls Try.prog 24 #[.pointer (some ⟨hb, 0, none⟩), .pointer (some ⟨cb, co, none⟩)] w fun e w' => e = .returned (.tuple #[]) ∧ Ch (fun _ => False) w w' := by
  obtain ⟨c0, c1, -⟩ := HR.cells
  clear H HR
  cases b with
  | false =>
    go_enter Try.func24, Try.ntmps24
    go_wp2
    refine bodyPost_ret (results_none rfl _ _ _) rfl ?_
    exact ⟨rfl, Ch.refl _ _⟩
  | true =>
    have hl : n < 4611686018427387904 := by rcases hn with h | h; cases h; exact h
    clear hn
    go_enter Try.func24, Try.ntmps24
    go_wp2
    refine bodyPost_ret (results_none rfl _ _ _) rfl ?_
    exact ⟨rfl, Ch.refl _ _⟩

set_option maxRecDepth 100000 in
set_option maxHeartbeats 8000000 in
/-- A root that was seen refers to where its thing is to lie. -/
theorem follow_some (w : World) (hb g N : Nat) (f : Nat → PC) (u : Nat) (H : HM w hb g N f u) (cb co : Nat) (arr : Array Value) (ty : TypeId) (a to : Nat) (kd tg sz : Int) (HR : RootAt w cb co arr ty true ((a : Nat) + farN)) (ha : a < u) (hf : f a = ⟨3, kd, tg, sz, (to : Nat)⟩) (hcg : cb ≠ g) (hch : cb ≠ hb) :
    Calls Try.prog 24 #[.pointer (some ⟨hb, 0, none⟩), .pointer (some ⟨cb, co, none⟩)] w fun e w' => e = .returned (.tuple #[]) ∧ HM w' hb g N f u ∧ w'.heap[cb]? = some (.cells (arr.setIfInBounds (co + 1) (.int .i64 (to : Nat))) ty (0, 0)) ∧ Ch (fun k => k = cb) w w' := by
  have hle := H.le
  have hmx := H.max
  obtain ⟨n, hn⟩ : ∃ n : Int, n = (a : Int) + farN := ⟨_, rfl⟩
  rw [← hn] at HR
  unfold farN at hn
  obtain ⟨c0, c1, -⟩ := HR.cells
  have hge : ¬ (n < 4611686018427387904) := by omega
  have hw1 : IntKind.i64.wrap (n - 4611686018427387904) = (a : Int) := by rw [IntWalk.i64_in _ (by omega)]; omega
  clear hn
  have HF := first_any w hb g N f u H (a : Int)
  have hl : liesF f u (a : Int) = true := by simp [liesF, ha, hf]
  have hff : firstF f u (a : Int) = ⟨3, kd, tg, sz, (to : Nat)⟩ := by simp [firstF, hl, hf]
  rw [hff] at HF
  unfold pcV at HF
  dsimp only at HF
  have hfd : ∀ (a b c d e : Int) (W : World), Sem.run Try.prog (Instr.field 61 (.agg #[.int .u8 a, .int .u8 b, .int .u16 c, .int .u32 d, .int .i64 e]) 0) W = .ok (.int .u8 a) W := fun a b c d e W => by kernel_rfl
  have HH := hid H
  have HRh := hid HR
  clear H HR hl hff hf
  go_enter Try.func24, Try.ntmps24
  go_wp2_with (go_at_call 34; refine HF.mono ?_; clear HF; rintro e w4 ⟨rfl, hc4⟩; have HR4 := HRh.out.keep hc4 (fun h => h); have HRA : RootAt (w4.alloc (.cells #[.int .u8 3, .int .u8 kd, .int .u16 tg, .int .u32 sz, .int .i64 (to : Nat)] 61)) cb co arr ty true n := ⟨blk_alloc HR4.blk, HR4.ptr, HR4.num⟩; obtain ⟨-, c1a, cfa⟩ := HRA.cells; replace cfa := cfa (co + 1); have H4 := hid (HH.out.keep hc4); replace HRA := hid HRA; clear HR4; replace hc4 := hid hc4)
  go_end0
  have HA : HM (w4.alloc (.cells #[.int .u8 3, .int .u8 kd, .int .u16 tg, .int .u32 sz, .int .i64 (to : Nat)] 61)) hb g N f u := ⟨blk_alloc H4.out.hd, blk_alloc H4.out.row, H4.out.ne, H4.out.le, H4.out.max⟩
  exact ⟨rfl, HA.other _ hcg hch, blk_set HRA.out.blk, Ch.set (O := fun k => k = cb) ((hc4.out.mono (fun _ h => h.elim)).al _) (a := ⟨cb, co + 1, none⟩) rfl _⟩
end Go.Proofs.Ytidgppghakmkaaa
