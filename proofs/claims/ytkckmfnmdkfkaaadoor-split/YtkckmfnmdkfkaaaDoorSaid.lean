/-
  What the statement's said and alike answer.
-/
import Derived.Test.YtkckmfnmdkfkaaaDoorJoin
import Derived.Test.YtkckmfnmdkfkaaaDoorSame
namespace Go.Proofs.YtkckmfnmdkfkaaaDoor
open Go.RowKit

theorem app_bytes (c : UInt8) (d : List UInt8) : (⟨#[c]⟩ : ByteArray) ++ ⟨d.toArray⟩ = ⟨([c] ++ d).toArray⟩ := by
  rw [ByteArray.mk_append_mk]

def SaidPost (t : Lx.Tk) (w : World) (e : Ending) (w' : World) : Prop := e = .returned (.string ⟨(saidOf t).toArray⟩) ∧ Below w.heap.size w w'

set_option maxRecDepth 100000 in
set_option maxHeartbeats 1000000 in
theorem said_text (t : Lx.Tk) (w : World) (hk : t.kind ≠ 1) :
    Calls Tryd.prog 8 #[.agg #[.int .i64 t.kind, .int .i64 t.pos, .string ⟨t.text.toArray⟩, .int .i64 t.num]] w fun e w' => SaidPost t w e w' := by
  have hk2 : ((t.kind : Int) != 1) = true := by simp; omega
  have HS := hid (show saidOf t = t.text by unfold saidOf; rw [if_neg hk])
  clear hk
  go_enter Tryd.func8, Tryd.ntmps8
  go_wp2
  go_ret
  exact ⟨by rw [HS.out]; rfl, (Below.refl _ _).alloc (Nat.le_refl _) _⟩

set_option maxRecDepth 100000 in
set_option maxHeartbeats 1000000 in
theorem said_num (t : Lx.Tk) (w : World) (hk : t.kind = 1) (hn : t.num ≤ 9223372036854775807) :
    Calls Tryd.prog 8 #[.agg #[.int .i64 t.kind, .int .i64 t.pos, .string ⟨t.text.toArray⟩, .int .i64 t.num]] w fun e w' => SaidPost t w e w' := by
  have hk2 : ((t.kind : Int) != 1) = false := by simp; omega
  have HS := hid (show saidOf t = digs t.num by unfold saidOf; rw [if_pos hk])
  obtain ⟨a, ha⟩ : ∃ a : Int, a = (t.num : Int) := ⟨_, rfl⟩
  have ha0 : 0 ≤ a := by omega
  have ha1 : a ≤ 9223372036854775807 := by omega
  rw [← ha]
  have HA := hid ha
  clear hk ha hn
  go_enter Tryd.func8, Tryd.ntmps8
  go_wp2
  go_loopw [3, 4] (fun n s wr => ∃ (x : Int) (d : List UInt8), n = .int .i64 x ∧ s = .string ⟨d.toArray⟩ ∧ 0 ≤ x ∧ x ≤ 9223372036854775807 ∧ d.length ≤ 30 ∧ Below w.heap.size w wr ∧ Hid (digs x.toNat ++ d = digs t.num) ∧ Hid (d.length + (digs x.toNat).length ≤ 19)) (fun n _ _ => (intOf n).toNat)
  case atStart =>
    refine ⟨a, [], rfl, rfl, ha0, ha1, by simp, (Below.refl _ _).alloc (Nat.le_refl _) _, hid ?_, hid ?_⟩
    · rw [HA.out]; simp
    · have := digs_len 18 a.toNat (by omega)
      simp; omega
  case round =>
    obtain ⟨x, d, rfl, rfl, hx0, hx1, hd, hb, HD, HL⟩ := hrel
    have hsz := hb.size
    obtain ⟨c, hc⟩ : ∃ c : UInt8, c = UInt8.ofNat (48 + x.toNat % 10) := ⟨_, rfl⟩
    have hcn : (c.toNat : Int) = 48 + x % 10 := by rw [hc, dig_byte (by omega)]; omega
    have hcv : (convert 41 9 (.slice (some ⟨wr.heap.size, 0, none⟩) 1 1)).run Tryd.prog (wr.alloc (.cells #[.int .u8 (48 + x % 10)] 5)) = .ok (.string ⟨#[c]⟩) (wr.alloc (.cells #[.int .u8 (48 + x % 10)] 5)) := by
      refine run_convert_bytes_back _ 41 9 5 ⟨wr.heap.size, 0, none⟩ 1 [c] Tryd.underlying41 Tryd.underlying5 Tryd.underlying9 ?_
      intro j hj
      have hj0 : j = 0 := by simpa using hj
      subst hj0
      rw [← hcn]
      simp [Addr.add]
    have HC := hid hc
    clear hc hcn
    have hb2 := hb.alloc hsz (.cells #[.int .u8 (48 + x % 10)] 5)
    have HB2 := hid hb2
    clear hb hb2
    by_cases hq : x < 10
    · have hq0 : (x / 10 == 0) = true := by simp; omega
      go_wp2_with fail
      go_ret
      refine ⟨?_, HB2.out⟩
      have e1 : digs x.toNat = [c] := by rw [digs_small (by omega), HC.out, Nat.mod_eq_of_lt (by omega)]
      have e2 := HD.out
      rw [e1] at e2
      rw [HS.out, ← e2, ← app_bytes]
      rfl
    · have hq0 : (x / 10 == 0) = false := by simp; omega
      go_wp2_with fail
      have e1 : digs x.toNat = digs (x / 10).toNat ++ [c] := by
        rw [digs_great (by omega), HC.out]
        congr 2
        omega
      go_roundw
      case rel =>
        refine ⟨x / 10, c :: d, rfl, by rw [app_bytes]; rfl, by omega, by omega, ?_, HB2.out, hid ?_, hid ?_⟩
        · have h1 := HL.out
          rw [e1] at h1
          simp at h1 ⊢
          omega
        · have h1 := HD.out
          rw [e1] at h1
          rw [← h1]; simp
        · have h1 := HL.out
          rw [e1] at h1
          simp at h1 ⊢
          omega
      case measure => simp [intOf]; omega

theorem said_any (t : Lx.Tk) (w : World) (hg : Good t) :
    Calls Tryd.prog 8 #[.agg #[.int .i64 t.kind, .int .i64 t.pos, .string ⟨t.text.toArray⟩, .int .i64 t.num]] w fun e w' => SaidPost t w e w' := by
  by_cases hk : t.kind = 1
  · refine said_num t w hk ?_
    obtain ⟨c, r, n, hT, _, _⟩ := hg
    cases hd : Lx.isDig c with
    | true =>
      rw [Lx.tokAt_dig 0 c r hd] at hT
      by_cases ho : Lx.okNum ((c :: r).takeWhile Lx.isDig) = true
      · rw [if_pos ho] at hT
        simp only [Except.ok.injEq, Prod.mk.injEq, Lx.Tk.mk.injEq] at hT
        obtain ⟨⟨_, _, _, k4⟩, _⟩ := hT
        unfold Lx.okNum at ho
        rw [Bool.and_eq_true] at ho
        have := of_decide_eq_true ho.2
        rw [← k4]; exact this
      · rw [if_neg ho] at hT; cases hT
    | false =>
      exfalso
      cases hl : Lx.isLet c with
      | true =>
        rw [Lx.tokAt_let 0 c r hd hl] at hT
        by_cases ho : ((c :: r).takeWhile Lx.isNm).length ≤ 20
        · rw [if_pos ho] at hT
          simp only [Except.ok.injEq, Prod.mk.injEq, Lx.Tk.mk.injEq] at hT
          obtain ⟨⟨k1, _⟩, _⟩ := hT
          rw [hk] at k1
          by_cases hw : Lx.isWd ((c :: r).takeWhile Lx.isNm) = true <;> simp [hw] at k1
        · rw [if_neg ho] at hT; cases hT
      | false =>
        cases hs : Lx.isSg c with
        | false => rw [Lx.tokAt_no 0 c r hd hl hs] at hT; cases hT
        | true =>
          rw [Lx.tokAt_sg 0 c r hd hl hs] at hT
          simp only [Except.ok.injEq, Prod.mk.injEq, Lx.Tk.mk.injEq] at hT
          omega
  · exact said_text t w hk

theorem strip_get {ts us : List Lx.Tk} (hs : ts.map strip = us.map strip) {k : Nat} (h1 : k < ts.length) (h2 : k < us.length) : us[k].kind = ts[k].kind ∧ us[k].text = ts[k].text ∧ us[k].num = ts[k].num := by
  have e : (ts.map strip)[k]? = (us.map strip)[k]? := by rw [hs]
  simp only [List.getElem?_map, List.getElem?_eq_getElem h1, List.getElem?_eq_getElem h2, Option.map_some, Option.some.injEq, strip, Prod.mk.injEq] at e
  exact ⟨e.1.symm, e.2.1.symm, e.2.2.symm⟩

set_option maxRecDepth 100000 in
set_option maxHeartbeats 1000000 in
/-- Two rows whose tokens are the same but for their places. -/
theorem alike_any (ts us : List Lx.Tk) (b1 b2 : Nat) (v1 v2 : Value) (w : World) (h1 : w.ownsRow b1 31 4 v1 ts.length (cellsOf ts)) (h2 : w.ownsRow b2 31 4 v2 us.length (cellsOf us)) (hs : ts.map strip = us.map strip) (hl : ts.length ≤ 10000) :
    Calls Tryd.prog 9 #[v1, v2] w fun e w' => e = .returned (.bool true) ∧ ∃ n, w' = w.drewN n := by
  have hlu : us.length = ts.length := by
    have := congrArg List.length hs
    simpa using this.symm
  by_cases hz : ts.length = 0
  · rw [hlu, hz] at h2
    rw [hz] at h1
    rcases forms h1 with ⟨rfl, _⟩ | ⟨g1, c1, rfl⟩ <;> rcases forms h2 with ⟨rfl, _⟩ | ⟨g2, c2, rfl⟩
    all_goals
      clear h1 h2 hz hl hlu hs
      go_enter Tryd.func9, Tryd.ntmps9
      go_wp2
      refine wp_loop_rounds 1 ?_
      rw [rounds_succ]
      go_wp2
      go_ret
      exact ⟨rfl, 0, rfl⟩
  · rcases forms h1 with ⟨_, h⟩ | ⟨g1, c1, rfl⟩
    · exact absurd h hz
    · rcases forms h2 with ⟨_, h⟩ | ⟨g2, c2, rfl⟩
      · exact absurd (hlu.symm.trans h) hz
      · have H1 := hid h1
        have H2 := hid h2
        obtain ⟨n, hn⟩ : ∃ n, n = ts.length := ⟨_, rfl⟩
        rw [hlu, ← hn]
        rw [← hn] at hl hz
        have HN := hid hn
        have HU := hid hlu
        have HS := hid hs
        clear h1 h2 hn hlu hs
        go_enter Tryd.func9, Tryd.ntmps9
        go_wp2
        go_loopw [5] (fun t wr => ∃ k nq : Nat, t = .int .i64 k ∧ k ≤ n ∧ wr = w.drewN nq) (fun t _ => n - (intOf t).toNat)
        case atStart => exact ⟨0, 0, rfl, Nat.zero_le _, rfl⟩
        case round =>
          obtain ⟨k, nq, rfl, hk, rfl⟩ := hrel
          by_cases hlt : k < n
          · have hlt2 : k < ts.length := by rw [← HN.out]; exact hlt
            have hlt3 : k < us.length := by rw [HU.out]; exact hlt2
            obtain ⟨e1, e2, e3⟩ := strip_get HS.out hlt2 hlt3
            obtain ⟨a0, a1, a2, a3⟩ := row_cells H1.out rfl k hlt2
            obtain ⟨b0, b1, b2, b3⟩ := row_cells H2.out rfl k hlt3
            rw [e1] at b0
            rw [e2] at b2
            rw [e3] at b3
            clear e1 e2 e3
            go_wp2_with fail
            go_quiet (fail)
            go_wp2
            go_roundw
            case rel => exact ⟨k + 1, _, by go_num, by omega, rfl⟩
            case measure => simp [intOf]; omega
          · go_wp2
            go_ret
            exact ⟨rfl, nq, rfl⟩
end Go.Proofs.YtkckmfnmdkfkaaaDoor
