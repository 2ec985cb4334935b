/-
  The shapes of an answer of Tokens; a fault's struct and a row of tokens, carried from world to world.
-/
import Derived.Test.YtkckmfnmdkfkaaaDoorSaid
import Derived.Test.YtkckmfnmdkfkaaaDoorLaw
namespace Go.Proofs.YtkckmfnmdkfkaaaDoor
open Go.RowKit

theorem lexF_bad : ∀ (f : Nat) (N pos : Nat) (l : List UInt8) (k p : Nat), l.length < f → Lx.lexF N f pos l = .error (k, p) → 2 ≤ k := by
  intro f
  induction f with
  | zero => intro N pos l k p h; omega
  | succ f ih =>
    intro N pos l k p hl h
    cases l with
    | nil => simp [Lx.lexF] at h
    | cons c r =>
      simp only [List.length_cons] at hl
      rw [Lx.lexF] at h
      by_cases h1 : Lx.isBl c = true
      · rw [if_pos h1] at h
        exact ih _ _ _ _ _ (by omega) h
      · rw [if_neg h1] at h
        by_cases h2 : c.toNat = 35
        · rw [if_pos h2] at h
          have := Lx.dropWhile_len c r h2
          exact ih _ _ _ _ _ (by omega) h
        · rw [if_neg h2] at h
          cases hT : Lx.tokAt pos (c :: r) with
          | error e =>
            rw [hT] at h
            obtain ⟨a, b⟩ := e
            simp only [Except.error.injEq, Prod.mk.injEq] at h
            have := tok_err hT
            omega
          | ok x =>
            obtain ⟨t, n⟩ := x
            rw [hT] at h
            have hp := Lx.tokAt_pos hT
            simp only [] at h
            cases hR : Lx.lexF N f (pos + n) ((c :: r).drop n) with
            | error e =>
              rw [hR] at h
              obtain ⟨a, b⟩ := e
              simp only [Lx.consTo, Except.error.injEq, Prod.mk.injEq] at h
              have := ih _ _ _ _ _ (by simp at hp ⊢; omega) hR
              omega
            | ok us => rw [hR] at h; cases h

/-- A text has a fault and no tokens, or tokens and no fault. -/
theorem answer_shape (s : ByteArray) : (∃ fk fp, answer s = (fk, fp, []) ∧ 1 ≤ fk) ∨
    (s.size ≤ 3000 ∧ ∃ body, answer s = (0, 0, body ++ [⟨0, s.size, [], 0⟩]) ∧ (∀ t ∈ body, Good t) ∧ Lx.lex s.size 0 s.data.toList = .ok (body ++ [⟨0, s.size, [], 0⟩]) ∧ body.length ≤ 3000) := by
  by_cases h : 3000 < s.size
  · exact .inl ⟨1, 0, answer_long h, by omega⟩
  · cases hL : Lx.lex s.size 0 s.data.toList with
    | error e =>
      obtain ⟨k, p⟩ := e
      have := lexF_bad _ _ _ _ _ _ (by omega) hL
      exact .inl ⟨k, p, answer_err (by omega) hL, by omega⟩
    | ok ts =>
      obtain ⟨body, hb, hg⟩ := lexF_good _ _ _ _ _ hL
      have hA := answer_ok (by omega) hL
      have hlen := answer_len s
      rw [hA] at hlen
      subst hb
      simp at hlen
      exact .inr ⟨by omega, body, hA, hg, rfl, by omega⟩

theorem answer_a : answer ⟨#[97]⟩ = (0, 0, [⟨2, 0, [97], 0⟩, ⟨0, 1, [], 0⟩]) := by
  refine answer_ok (by decide) ?_
  have h1 : Lx.lex 1 0 [97] = .ok [⟨2, 0, [97], 0⟩, ⟨0, 1, [], 0⟩] := by rfl
  exact h1

/-- A fault's struct in a block. -/
def Flt (W : World) (F : Nat) (a b : Value) : Prop := (W.cell? ⟨F, 0, none⟩ = some a ∧ W.cell? ⟨F, 1, none⟩ = some b) ∧ W.frozen? ⟨F, 0, none⟩ = false ∧ W.frozen? ⟨F, 1, none⟩ = false

theorem Flt.new (W : World) (a b : Value) (e : TypeId) : Flt (W.alloc (.cells #[a, b] e)) W.heap.size a b := ⟨⟨by simp, by simp⟩, by simp, by simp⟩
theorem Flt.below {W W' : World} {F B : Nat} {a b : Value} (h : Flt W F a b) (hb : Below B W W') (hF : F < B) : Flt W' F a b := by
  obtain ⟨hc, hf⟩ := bcell hb
  exact ⟨⟨(hc _ _ hF).trans h.1.1, (hc _ _ hF).trans h.1.2⟩, (hf _ _ hF).trans h.2.1, (hf _ _ hF).trans h.2.2⟩
theorem Flt.lt {W : World} {F : Nat} {a b : Value} (h : Flt W F a b) : F < W.heap.size := World.block_lt_of_cell? W ⟨F, 0, none⟩ h.1.1
theorem Flt.alloc {W : World} {F : Nat} {a b : Value} (h : Flt W F a b) (o : Obj) : Flt (W.alloc o) F a b := h.below ((Below.refl _ _).alloc (Nat.le_refl _) o) h.lt
theorem Flt.store {W : World} {F : Nat} {a b : Value} (h : Flt W F a b) (c d : Value) : Flt ((W.setCell ⟨F, 0, none⟩ c).setCell ⟨F, 1, none⟩ d) F c d := by
  obtain ⟨⟨c0, c1⟩, f0, f1⟩ := h
  refine ⟨⟨?_, ?_⟩, ?_, ?_⟩ <;> simp [go_sem, c0, c1, f0, f1]
theorem Flt.other {W : World} {F G : Nat} {a b : Value} (h : Flt W F a b) (hne : F ≠ G) (c d : Value) : Flt ((W.setCell ⟨G, 0, none⟩ c).setCell ⟨G, 1, none⟩ d) F a b := by
  have e : ((W.setCell ⟨G, 0, none⟩ c).setCell ⟨G, 1, none⟩ d).heap[F]? = W.heap[F]? := (Below.heap_setCell _ _ _ _ hne).trans (Below.heap_setCell _ _ _ _ hne)
  exact ⟨⟨(World.cell?_of_block (a := ⟨F, 0, none⟩) e).trans h.1.1, (World.cell?_of_block (a := ⟨F, 1, none⟩) e).trans h.1.2⟩, (World.frozen?_of_block (a := ⟨F, 0, none⟩) e).trans h.2.1, (World.frozen?_of_block (a := ⟨F, 1, none⟩) e).trans h.2.2⟩

theorem own_store {W : World} {base n F : Nat} {v : Value} {xs : List Value} (h : W.ownsRow base 31 4 v n xs) (hv : v.ownBlock ≠ some F) (c d : Value) : ((W.setCell ⟨F, 0, none⟩ c).setCell ⟨F, 1, none⟩ d).ownsRow base 31 4 v n xs :=
  ownsRow_setCell_other (ownsRow_setCell_other h (a := ⟨F, 0, none⟩) hv c) (a := ⟨F, 1, none⟩) hv d
theorem below_store {B F : Nat} {w W : World} (h : Below B w W) (hF : B ≤ F) (c d : Value) : Below B w ((W.setCell ⟨F, 0, none⟩ c).setCell ⟨F, 1, none⟩ d) := (h.setCell hF c).setCell hF d
theorem own_ne {W : World} {base n F : Nat} {v : Value} {xs : List Value} (h : W.ownsRow base 31 4 v n xs) (hF : F < base ∨ W.heap.size ≤ F) : v.ownBlock ≠ some F := by
  intro e
  have := h.lt F e
  omega

theorem body_cells {w : World} {base g cap : Nat} {body : List Lx.Tk} {z : Lx.Tk} (h : w.ownsRow base 31 4 (.slice (some ⟨g, 0, none⟩) (body.length + 1) cap) (body ++ [z]).length (cellsOf (body ++ [z]))) (k : Nat) (hk : k < body.length) :
    w.cell? ⟨g, k * 4, none⟩ = some (.int .i64 body[k].kind) ∧ w.cell? ⟨g, k * 4 + 1, none⟩ = some (.int .i64 body[k].pos) ∧ w.cell? ⟨g, k * 4 + 2, none⟩ = some (.string ⟨body[k].text.toArray⟩) ∧ w.cell? ⟨g, k * 4 + 3, none⟩ = some (.int .i64 body[k].num) := by
  have e : (body ++ [z]).length = body.length + 1 := by simp
  rw [e] at h
  have := row_cells h e.symm k (by simp; omega)
  rwa [List.getElem_append_left hk] at this

theorem said_snoc (body : List Lx.Tk) (k : Nat) (hk : k < body.length) : saidAll (body.take (k + 1)) = (saidAll (body.take k) ++ saidOf body[k]) ++ [32] := by
  unfold saidAll
  rw [List.take_succ_eq_append_getElem hk, List.flatMap_append]
  simp only [List.flatMap_cons, List.flatMap_nil, List.append_nil, List.append_assoc]
theorem said_bound {body : List Lx.Tk} (hg : ∀ t ∈ body, Good t) (hl : body.length ≤ 3000) (k : Nat) : (saidAll (body.take k)).length ≤ 63000 := by
  have h1 := said_len (body.take k) (fun t ht => hg t (List.mem_of_mem_take ht))
  have h2 : (body.take k).length ≤ body.length := List.length_take_le' ..
  omega
theorem mk_size (l : List UInt8) : (⟨l.toArray⟩ : ByteArray).size = l.length := by
  show l.toArray.size = l.length
  simp

/-- What the tokens of a text say has these tokens. -/
theorem said_answer {body : List Lx.Tk} {z : Lx.Tk} (hz : strip z = (0, [], 0)) (hg : ∀ t ∈ body, Good t) (hl : (saidAll body).length ≤ 3000) : ∃ ks, answer ⟨(saidAll body).toArray⟩ = (0, 0, ks) ∧ ks.map strip = (body ++ [z]).map strip := by
  obtain ⟨ks, hk, hm⟩ := lex_said body hg (⟨(saidAll body).toArray⟩ : ByteArray).size 0
  refine ⟨ks, answer_ok (by rw [mk_size]; exact hl) ?_, ?_⟩
  · simpa using hk
  · rw [hm]; simp [hz]
theorem said_long {body : List Lx.Tk} (hl : 3000 < (saidAll body).length) : answer ⟨(saidAll body).toArray⟩ = (1, 0, []) := answer_long (by rw [mk_size]; exact hl)
/-- Two texts with a byte 10 between have the tokens of both. -/
theorem join_answer {s t : ByteArray} {body us : List Lx.Tk} {z : Lx.Tk} (h1 : Lx.lex s.size 0 s.data.toList = .ok (body ++ [z])) (h2 : Lx.lex t.size 0 t.data.toList = .ok us) (hl : s.size + t.size + 1 ≤ 3000) :
    ∃ ks, answer ((s ++ ⟨#[10]⟩) ++ t) = (0, 0, ks) ∧ ks.map strip = (body ++ us).map strip := by
  obtain ⟨ks, hk, hm⟩ := lex_join _ _ _ _ _ h1 t.data.toList _ _ us h2 ((s ++ ⟨#[10]⟩) ++ t).size 0
  have e : ((s ++ ⟨#[10]⟩) ++ t).data.toList = s.data.toList ++ 10 :: t.data.toList := by simp
  have e2 : ((s ++ ⟨#[10]⟩) ++ t).size = s.size + 1 + t.size := by rw [ByteArray.size_append, ByteArray.size_append]; rfl
  refine ⟨ks, answer_ok (by omega) (by rw [e]; exact hk), ?_⟩
  rw [hm, List.dropLast_concat, List.map_append]

/-- The cells of a row's first tokens. -/
theorem front_cells {w : World} {base g cap n : Nat} {body rest : List Lx.Tk} (h : w.ownsRow base 31 4 (.slice (some ⟨g, 0, none⟩) n cap) (body ++ rest).length (cellsOf (body ++ rest))) : ∀ j u, (cellsOf body)[j]? = some u → w.cell? ((⟨g, 0, none⟩ : Addr).add j) = some u := by
  intro j u hj
  refine h.cells (g := g) rfl j u ?_
  have e : cellsOf (body ++ rest) = cellsOf body ++ cellsOf rest := by simp [cellsOf]
  have hl : j < (cellsOf body).length := (List.getElem?_eq_some_iff.1 hj).1
  rw [e, List.getElem?_append_left hl]
  exact hj
theorem cellsOf_len (ts : List Lx.Tk) : (cellsOf ts).length = ts.length * 4 := by
  induction ts with
  | nil => rfl
  | cons t ts ih =>
    have e : cellsOf (t :: ts) = tkCells t ++ cellsOf ts := by simp [cellsOf]
    have hl : (tkCells t).length = 4 := rfl
    rw [e, List.length_append, ih, hl, List.length_cons]
    omega
theorem cellsOf_one (ts : List Lx.Tk) : ∀ u ∈ cellsOf ts, u.oneCell' = true := by
  intro u hu
  unfold cellsOf at hu
  obtain ⟨t, _, hu⟩ := List.mem_flatMap.1 hu
  exact one_cells t u hu
theorem both_row {w : World} {base : Nat} {v : Value} {body us : List Lx.Tk} (h : w.ownsRow base 31 4 v (0 + body.length + us.length) (([] ++ cellsOf body) ++ cellsOf us)) : w.ownsRow base 31 4 v (body ++ us).length (cellsOf (body ++ us)) := by
  have e : cellsOf (body ++ us) = cellsOf body ++ cellsOf us := by simp [cellsOf]
  rw [e]
  simpa using h
theorem own_past {W w' : World} {base n B : Nat} {v x : Value} {xs : List Value} (h : W.ownsRow base 31 4 v n xs) (hg : W.grownBy w' x.ownBlock) (hv : ∀ k, v.ownBlock = some k → k < B) (hx : ∀ k, x.ownBlock = some k → B ≤ k) : w'.ownsRow base 31 4 v n xs := by
  refine h.kept hg ?_
  cases hq : v.ownBlock with
  | none => exact .inl rfl
  | some k =>
    right
    intro e
    have h1 := hv k hq
    have h2 := hx k e.symm
    omega
theorem Flt.past {W w' : World} {F B : Nat} {a b x : Value} (h : Flt W F a b) (hg : W.grownBy w' x.ownBlock) (hF : F < B) (hx : ∀ k, x.ownBlock = some k → B ≤ k) : Flt w' F a b := by
  have hne : some F ≠ x.ownBlock := by
    intro e
    have := hx F e.symm
    omega
  have e := hg.block F h.lt hne
  exact ⟨⟨(World.cell?_of_block (a := ⟨F, 0, none⟩) e).trans h.1.1, (World.cell?_of_block (a := ⟨F, 1, none⟩) e).trans h.1.2⟩, (World.frozen?_of_block (a := ⟨F, 0, none⟩) e).trans h.2.1, (World.frozen?_of_block (a := ⟨F, 1, none⟩) e).trans h.2.2⟩
theorem own_new (B : Nat) : ∀ k, Value.ownBlock (.slice (some ⟨B, 0, none⟩) 0 0) = some k → B ≤ k := by
  intro k hk
  simp [Value.ownBlock] at hk
  omega

theorem own_cap {W : World} {base e size g n cap m : Nat} {xs : List Value} (h : W.ownsRow base e size (.slice (some ⟨g, 0, none⟩) n cap) m xs) : n ≤ cap := by
  rcases h.2 with ⟨h, _⟩ | ⟨g', cap', cur, hv, _, _, hc, _⟩
  · cases h
  · simp only [Value.slice.injEq] at hv
    omega

theorem app_two (a b c : List UInt8) : ((⟨a.toArray⟩ : ByteArray) ++ ⟨b.toArray⟩) ++ ⟨c.toArray⟩ = ⟨((a ++ b) ++ c).toArray⟩ := by
  rw [ByteArray.mk_append_mk, ByteArray.mk_append_mk]
theorem good_said {t : Lx.Tk} (h : Good t) : (saidOf t).length ≤ 20 ∧ 1 ≤ t.kind ∧ t.kind ≤ 4 := by
  obtain ⟨c, r, hs, _, _, _, hl, hk⟩ := said_self h
  rw [hs]; exact ⟨hl, hk⟩
end Go.Proofs.YtkckmfnmdkfkaaaDoor
