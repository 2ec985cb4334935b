/-
  The program's reader: how its elements lie in memory; a number of a list, an operation, an instruction.
  The program's reader: an operation.
  The program's reader: a handler.
-/
import Derived.Test.YticmoofjjikefaaDoorMRe
import Derived.Test.YticmoofjjikefaaDoorCj
set_option linter.unusedVariables false
set_option linter.unusedSimpArgs false
namespace Go.Proofs.YticmoofjjikefaaDoor
open Go.RowKit Go.Lib

def RInt : Rel Int := fun x cs _ _ => cs = [.int .i64 x]
def RIns : Rel Cd.Ins := fun x cs _ _ => cs = [.int .i64 x.op, .int .i64 x.a, .int .i64 x.b, .int .i64 x.n]
def ROp : Rel Cd.Op := fun x cs _ _ => cs = [.string ⟨x.name.toArray⟩, .bool x.once]
def RHan : Rel Cd.Han := fun x cs w D => ∃ va vn vc, cs = [.bool x.shallow, .slice va vn vc] ∧ LsM RInt 1 w D (.slice va vn vc) x.ops
def RFun : Rel Cd.Fun := fun x cs w D => ∃ va vn vc, cs = [.int .i64 x.free, .int .i64 x.slots, .slice va vn vc] ∧ LsM RIns 4 w D (.slice va vn vc) x.ins
theorem RInt.ok : Rel.Ok RInt 1 := ⟨fun x cs w D h => by subst h; simp [Value.oneCell'], fun x cs w w' D D' h _ _ => h⟩
theorem RIns.ok : Rel.Ok RIns 4 := ⟨fun x cs w D h => by subst h; simp [Value.oneCell'], fun x cs w w' D D' h _ _ => h⟩
theorem ROp.ok : Rel.Ok ROp 2 := ⟨fun x cs w D h => by subst h; simp [Value.oneCell'], fun x cs w w' D D' h _ _ => h⟩
theorem LsM.keep {α : Type} {R : Rel α} {size : Nat} {w w' : World} {D D' : Nat → Prop} {v : Value} {l : List α} (hR : Rel.Ok R size) (h : LsM R size w D v l) (hs : ∀ k, D k → w'.heap[k]? = w.heap[k]?) (hd : ∀ k, D k → D' k) : LsM R size w' D' v l := by
  obtain ⟨a, c, h1, h2, h3⟩ := h
  refine ⟨a, c, h1, h2, fun hne => ?_⟩
  obtain ⟨g, e, hg, h4⟩ := h3 hne
  refine ⟨g, e, hd g hg, fun i x hx => ?_⟩
  obtain ⟨cs, h5, h6⟩ := h4 i x hx
  refine ⟨cs, hR.2 x cs w w' D D' h5 hs hd, fun j u hj => ?_⟩
  rw [← h6 j u hj]
  simp only [World.cell?, hs g hg]
theorem RHan.ok : Rel.Ok RHan 2 := ⟨fun x cs w D h => by obtain ⟨va, vn, vc, rfl, _⟩ := h; simp [Value.oneCell'], fun x cs w w' D D' h hs hd => by
  obtain ⟨va, vn, vc, h1, h2⟩ := h
  exact ⟨va, vn, vc, h1, h2.keep RInt.ok hs hd⟩⟩
theorem RFun.ok : Rel.Ok RFun 3 := ⟨fun x cs w D h => by obtain ⟨va, vn, vc, rfl, _⟩ := h; simp [Value.oneCell'], fun x cs w w' D D' h hs hd => by
  obtain ⟨va, vn, vc, h1, h2⟩ := h
  exact ⟨va, vn, vc, h1, h2.keep RIns.ok hs hd⟩⟩
/-- Lists that are read are codes' lists in memory. -/
theorem LsM.ints {w : World} {D : Nat → Prop} {v : Value} {l : List Int} (h : LsM RInt 1 w D v l) : IntsM w v l := by
  obtain ⟨a, c, h1, h2, h3⟩ := h
  refine ⟨a, c, h1, h2, fun hne => ?_⟩
  obtain ⟨g, e, hg, h4⟩ := h3 hne
  refine ⟨g, 0, e, fun i x hx => ?_⟩
  obtain ⟨cs, rfl, h6⟩ := h4 i x hx
  simpa using h6 0 _ rfl
theorem LsM.inss {w : World} {D : Nat → Prop} {v : Value} {l : List Cd.Ins} (h : LsM RIns 4 w D v l) : InssM w v l := by
  obtain ⟨a, c, h1, h2, h3⟩ := h
  refine ⟨a, c, h1, h2, fun hne => ?_⟩
  obtain ⟨g, e, hg, h4⟩ := h3 hne
  refine ⟨g, 0, e, fun i x hx => ?_⟩
  obtain ⟨cs, rfl, h6⟩ := h4 i x hx
  refine ⟨?_, ?_, ?_, ?_⟩
  · simpa using h6 0 _ rfl
  · simpa using h6 1 _ rfl
  · simpa using h6 2 _ rfl
  · simpa using h6 3 _ rfl
theorem LsM.ops {w : World} {D : Nat → Prop} {v : Value} {l : List Cd.Op} (h : LsM ROp 2 w D v l) : OpsM w v l := by
  obtain ⟨a, c, h1, h2, h3⟩ := h
  refine ⟨a, c, h1, h2, fun hne => ?_⟩
  obtain ⟨g, e, hg, h4⟩ := h3 hne
  refine ⟨g, 0, e, fun i x hx => ?_⟩
  obtain ⟨cs, rfl, h6⟩ := h4 i x hx
  refine ⟨?_, ?_⟩
  · simpa using h6 0 _ rfl
  · simpa using h6 1 _ rfl
theorem LsM.hans {w : World} {D : Nat → Prop} {v : Value} {l : List Cd.Han} (h : LsM RHan 2 w D v l) : HansM w v l := by
  obtain ⟨a, c, h1, h2, h3⟩ := h
  refine ⟨a, c, h1, h2, fun hne => ?_⟩
  obtain ⟨g, e, hg, h4⟩ := h3 hne
  refine ⟨g, 0, e, fun i x hx => ?_⟩
  obtain ⟨cs, ⟨va, vn, vc, rfl, h5⟩, h6⟩ := h4 i x hx
  refine ⟨?_, _, ?_, h5.ints⟩
  · simpa using h6 0 _ rfl
  · simpa using h6 1 _ rfl
theorem LsM.funs {w : World} {D : Nat → Prop} {v : Value} {l : List Cd.Fun} (h : LsM RFun 3 w D v l) : FunsM w v l := by
  obtain ⟨a, c, h1, h2, h3⟩ := h
  refine ⟨a, c, h1, h2, fun hne => ?_⟩
  obtain ⟨g, e, hg, h4⟩ := h3 hne
  refine ⟨g, 0, e, fun i x hx => ?_⟩
  obtain ⟨cs, ⟨va, vn, vc, rfl, h5⟩, h6⟩ := h4 i x hx
  refine ⟨?_, ?_, _, ?_, h5.inss⟩
  · simpa using h6 0 _ rfl
  · simpa using h6 1 _ rfl
  · simpa using h6 2 _ rfl

/- A reader at fault stays as it is. -/
theorem bad_num' {s : List UInt8} {n : Nat} {r : Cd.Rd} (h : r.fk ≠ 0) : r.num s n = (0, r) := by
  unfold Cd.Rd.num
  rw [if_neg (fun e => h e.1)]
  simp [Cd.Rd.no, h]
theorem bad_text {s : List UInt8} {n : Nat} {r : Cd.Rd} (h : r.fk ≠ 0) : r.text s n = ([], r) := by
  unfold Cd.Rd.text
  rw [if_neg (fun e => h e.1)]
  simp [Cd.Rd.no, h]
theorem bad_flag {s : List UInt8} {r : Cd.Rd} (h : r.fk ≠ 0) : r.flag s = (false, r) := by
  unfold Cd.Rd.flag
  rw [bad_num' h]
  rfl
def gInt (s : List UInt8) (r : Cd.Rd) : Int × Cd.Rd := (((r.num s 1).1 : Int), (r.num s 1).2)
def gOp (s : List UInt8) (r : Cd.Rd) : Cd.Op × Cd.Rd := (⟨(Cd.Rd.txt s 1 20 r).1, ((Cd.Rd.txt s 1 20 r).2.flag s).1⟩, ((Cd.Rd.txt s 1 20 r).2.flag s).2)
theorem flag_fa (s : List UInt8) (p : Nat) (h : (Cd.Rd.flag s (Cd.Rd.at_ p)).2.fk = 0) : (Cd.Rd.flag s (Cd.Rd.at_ p)).2 = Cd.Rd.at_ (p + 1) := by
  unfold Cd.Rd.flag at h ⊢
  by_cases hn : (Cd.Rd.num s 1 (Cd.Rd.at_ p)).2.fk = 0
  · have e := num_fa s 1 p hn
    dsimp only at h ⊢
    rw [e] at h ⊢
    split
    · rename_i h2
      rw [if_pos h2] at h
      simp [Cd.Rd.no, Cd.Rd.at_] at h
    · rfl
  · have e := num_bad s 1 p hn
    rw [e] at h ⊢
    simp at h
theorem text_fa (s : List UInt8) (n p : Nat) (h : (Cd.Rd.text s n (Cd.Rd.at_ p)).2.fk = 0) : (Cd.Rd.text s n (Cd.Rd.at_ p)).2 = Cd.Rd.at_ (p + n) := by
  unfold Cd.Rd.text Cd.Rd.no Cd.Rd.at_ at h ⊢
  split
  · rfl
  · rename_i h2
    rw [if_neg h2] at h
    simp at h
theorem txt_fa (s : List UInt8) (size most p : Nat) (h : (Cd.Rd.txt s size most (Cd.Rd.at_ p)).2.fk = 0) : (Cd.Rd.txt s size most (Cd.Rd.at_ p)).2 = Cd.Rd.at_ (Cd.Rd.txt s size most (Cd.Rd.at_ p)).2.pos := by
  unfold Cd.Rd.txt at h ⊢
  by_cases hn : (Cd.Rd.num s size (Cd.Rd.at_ p)).2.fk = 0
  · have e := num_fa s size p hn
    dsimp only at h ⊢
    rw [e] at h ⊢
    by_cases hm : most < (Cd.Rd.num s size (Cd.Rd.at_ p)).1
    · rw [if_pos hm] at h ⊢
      rw [bad_text (by simp [Cd.Rd.no, Cd.Rd.at_])] at h
      simp [Cd.Rd.no, Cd.Rd.at_] at h
    · rw [if_neg hm] at h ⊢
      have := text_fa s _ _ h
      rw [this]
      rfl
  · have e := num_bad s size p hn
    rw [e] at h ⊢
    dsimp only at h
    rw [if_neg (by omega), bad_text (by simp)] at h
    simp at h
theorem flag_pos (s : List UInt8) (p : Nat) (hp : p ≤ s.length) : (Cd.Rd.flag s (Cd.Rd.at_ p)).2.pos ≤ s.length := by
  have := num_le s 1 p hp
  unfold Cd.Rd.flag
  dsimp only
  split
  · unfold Cd.Rd.no
    split <;> exact this
  · exact this
theorem txt_pos (s : List UInt8) (size most p : Nat) (hp : p ≤ s.length) : (Cd.Rd.txt s size most (Cd.Rd.at_ p)).2.pos ≤ s.length := by
  have h1 := num_le s size p hp
  unfold Cd.Rd.txt
  by_cases hn : (Cd.Rd.num s size (Cd.Rd.at_ p)).2.fk = 0
  · have e := num_fa s size p hn
    rw [e] at h1
    dsimp only
    rw [e]
    by_cases hm : most < (Cd.Rd.num s size (Cd.Rd.at_ p)).1
    · rw [if_pos hm, bad_text (by simp [Cd.Rd.no, Cd.Rd.at_])]
      simp [Cd.Rd.no, Cd.Rd.at_]
      exact h1
    · rw [if_neg hm]
      exact text_le s _ _ h1
  · have e := num_bad s size p hn
    rw [e]
    dsimp only
    rw [if_neg (by omega), bad_text (by simp)]
    exact hp

set_option maxHeartbeats 2000000 in
theorem each_int (W : World) (b : Nat) (s : List UInt8) (q cB : Nat) (h : PM W b s q) (hs : s.length ≤ 4000000) (hq : q ≤ s.length) (hc : W.cell? ⟨cB, 0, none⟩ = some (.pointer (some ⟨b, 0, none⟩))) :
    Calls Tryd.prog 45 #[.pointer (some ⟨cB, 0, none⟩)] W (EPost RInt (fun cs => ∃ a : Int, cs = [.int .i64 a]) (fun cs => cs.headD undef) b s W (gInt s (Cd.Rd.at_ q))) := by
  have HN := hid (number_c W b s q 1 h hs hq (by omega))
  have hlt := Cd.num_one_lt s (Cd.Rd.at_ q)
  have HS : Hid (Cd.sgn (Cd.Rd.num s 1 (Cd.Rd.at_ q)).1 = ((Cd.Rd.num s 1 (Cd.Rd.at_ q)).1 : Int)) := Cd.sgn_small (by omega)
  rw [HS.out] at HN
  unfold NmPost at HN
  have hok := hid (num_fa s 1 q)
  have hle := num_le s 1 q hq
  have HG : Hid (gInt s (Cd.Rd.at_ q) = (((Cd.Rd.num s 1 (Cd.Rd.at_ q)).1 : Int), (Cd.Rd.num s 1 (Cd.Rd.at_ q)).2)) := rfl
  clear h HS
  generalize Cd.Rd.num s 1 (Cd.Rd.at_ q) = vr at HN hok HG hle hlt
  obtain ⟨v, r⟩ := vr
  dsimp only at HN hok HG hle hlt
  unfold ptrV at HN
  go_enter Tryd.func45, Tryd.ntmps45
  go_wp2_with (first
    | (go_at_call 40; refine HN.out.mono ?_; clear HN; rintro en w1 ⟨rfl, h1, hg1⟩
       generalize hev : errV r = ev
       replace hev := hid hev
       replace h1 := hid h1
       replace hg1 := hid hg1)
    | go_in)
  rw [HG.out]
  refine bodyPost_ret (v := .tuple #[.int .i64 v, ev]) (by simp [results, Tryd.results45, go_sem]) rfl ⟨[.int .i64 v], ⟨_, rfl⟩, by rw [← hev.out]; rfl, h1.out, hg1.out, hle, fun hr => ⟨by rw [hok.out hr]; rfl, fun _ => False, rfl, fun k hk => hk.elim⟩⟩
end Go.Proofs.YticmoofjjikefaaDoor

namespace Go.Proofs.YticmoofjjikefaaDoor
open Go.RowKit Go.Lib

theorem grown_newc {w w' : World} {b k i : Nat} {v : Value} (h : w.grownBy w' (some b)) (hk : w.heap.size ≤ k) : w.grownBy (w'.setCell ⟨k, i, none⟩ v) (some b) :=
  ⟨h.os, h.tape, h.output, by have := h.size; simpa using this, fun j hj hne => (Below.heap_setCell w' _ _ j (by dsimp only; omega)).trans (h.block j hj hne)⟩
theorem PM.far {w : World} {b k i : Nat} {s : List UInt8} {p : Nat} {v : Value} (h : PM w b s p) (hk : b ≠ k) : PM (w.setCell ⟨k, i, none⟩ v) b s p := blk_other h hk
theorem PM.al {w : World} {b : Nat} {s : List UInt8} {p : Nat} (h : PM w b s p) (o : Obj) : PM (w.alloc o) b s p := blk_alloc h
def OpnPost (b : Nat) (s : List UInt8) (W : World) := EPost ROp (fun cs => ∃ (t : List UInt8) (o : Bool), cs = [.string ⟨t.toArray⟩, .bool o]) (fun cs => .agg cs.toArray) b s W
theorem opn_fin {b : Nat} {s : List UInt8} {W w' : World} {q : Cd.Op × Cd.Rd} {a' : Act} {oB : Nat} {t : List UInt8} {o : Bool} {ev : Value} (hd : a'.defers = []) (h2 : a'.tmps[2]? = some (.pointer (some ⟨oB, 0, none⟩))) (h3 : a'.tmps[3]? = some ev) (hB : w'.heap[oB]? = some (.cells #[.string ⟨t.toArray⟩, .bool o] 56 (0, 0))) (hev : errV q.2 = ev) (hp : PM w' b s q.2.pos) (hg : W.grownBy w' (some b)) (hq : q.2.pos ≤ s.length) (hr : q.2.fk = 0 → q.2.fa = 0 ∧ q.1 = ⟨t, o⟩) : bodyPost Tryd.prog Tryd.f21 (OpnPost b s W q) .ret a' w' := by
  have c0 : w'.cell? ⟨oB, 0, none⟩ = some (.string ⟨t.toArray⟩) := by simp [World.cell?, hB]
  have c1 : w'.cell? ⟨oB, 1, none⟩ = some (.bool o) := by simp [World.cell?, hB]
  refine bodyPost_ret (v := .tuple #[.agg #[.string ⟨t.toArray⟩, .bool o], ev]) ?_ hd ⟨[.string ⟨t.toArray⟩, .bool o], ⟨t, o, rfl⟩, by rw [hev], hp, hg, hq, fun h => ⟨(hr h).1, fun _ => False, by rw [(hr h).2]; rfl, fun k hk => hk.elim⟩⟩
  simp [results, Tryd.results21, go_sem, h2, h3, c0, c1]

set_option maxRecDepth 100000 in
set_option maxHeartbeats 4000000 in
theorem operation_c (W : World) (b : Nat) (s : List UInt8) (q : Nat) (h : PM W b s q) (hs : s.length ≤ 4000000) (hq : q ≤ s.length) :
    Calls Tryd.prog 21 #[.pointer (some ⟨b, 0, none⟩)] W (OpnPost b s W (gOp s (Cd.Rd.at_ q))) := by
  have hbl := h.lt
  have HT := hid (dtext_c (W.alloc (.cells #[.string ⟨#[]⟩, .bool false] 56)) b s q 1 20 (h.al _) hs hq (by omega) (by omega))
  have hok := hid (txt_fa s 1 20 q)
  have hle := txt_pos s 1 20 q hq
  have HG : Hid (gOp s (Cd.Rd.at_ q) = (⟨(Cd.Rd.txt s 1 20 (Cd.Rd.at_ q)).1, ((Cd.Rd.txt s 1 20 (Cd.Rd.at_ q)).2.flag s).1⟩, ((Cd.Rd.txt s 1 20 (Cd.Rd.at_ q)).2.flag s).2)) := rfl
  have hB0 : (W.alloc (.cells #[.string ⟨#[]⟩, .bool false] 56)).heap[W.heap.size]? = some (.cells #[.string ⟨([] : List UInt8).toArray⟩, .bool false] 56 (0, 0)) := World.alloc_heap_new W _
  clear h
  generalize Cd.Rd.txt s 1 20 (Cd.Rd.at_ q) = tr at HT hok hle HG
  obtain ⟨t, r⟩ := tr
  dsimp only at HT hok hle HG
  unfold ptrV TkPost at HT
  by_cases hr : r.fk = 0
  · have hrd := hok.out hr
    rw [errV_ok hr] at HT
    have HF := hid (fun (V : World) (hv : PM V b s r.pos) => dflag_c V b s r.pos hv hs hle)
    rw [← hrd] at HF
    have hfa := flag_fa s r.pos
    have hfp := flag_pos s r.pos hle
    rw [← hrd] at hfa hfp
    generalize Cd.Rd.flag s r = fr at HF HG hfa hfp
    obtain ⟨o, r2⟩ := fr
    dsimp only at HF HG hfa hfp
    have HFa := hid hfa
    clear hfa
    unfold ptrV at HF
    go_enter Tryd.func21, Tryd.ntmps21
    go_wp2_with (first
      | (go_at_call 19; refine HT.out.mono ?_; clear HT; rintro en w1 ⟨rfl, h1, hg1⟩
         have hB1 := (hg1.block W.heap.size (by simp) (by simp; omega)).trans hB0
         have k0 : w1.cell? ⟨W.heap.size, 0, none⟩ = some (.string ⟨#[]⟩) := by simp [World.cell?, hB1]
         have k1 : w1.cell? ⟨W.heap.size, 1, none⟩ = some (.bool false) := by simp [World.cell?, hB1]
         have kf : ∀ i, w1.frozen? ⟨W.heap.size, i, none⟩ = false := fun i => by simp [World.frozen?, hB1]
         replace h1 := hid h1
         replace hg1 := hid (grown_trans (grown_alloc (grown_refl W (some b)) _) hg1)
         replace hB1 := hid (blk_set (i := 0) (v := .string ⟨t.toArray⟩) hB1))
      | (go_at_call 43; refine (HF.out _ (h1.out.far (by omega))).mono ?_; clear HF; rintro en w2 ⟨rfl, h2, hg2⟩
         have hB2 := (hg2.block W.heap.size (Array.getElem?_eq_some_iff.1 hB1.out).1 (by simp; omega)).trans hB1.out
         have j0 : w2.cell? ⟨W.heap.size, 0, none⟩ = some (.string ⟨t.toArray⟩) := by simp [World.cell?, hB2]
         have j1 : w2.cell? ⟨W.heap.size, 1, none⟩ = some (.bool false) := by simp [World.cell?, hB2]
         have jf : ∀ i, w2.frozen? ⟨W.heap.size, i, none⟩ = false := fun i => by simp [World.frozen?, hB2]
         generalize hev : errV r2 = ev
         replace hev := hid hev
         replace h2 := hid h2
         replace hg2 := hid (grown_trans (grown_newc hg1.out (Nat.le_refl _)) hg2)
         replace hB2 := hid hB2)
      | go_in)
    rw [HG.out]
    refine opn_fin (t := t) (o := o) rfl rfl rfl ?_ hev.out (((h2.out.far (by omega)).far (by omega)).far (by omega)) (grown_newc (grown_newc (grown_newc hg2.out (Nat.le_refl _)) (Nat.le_refl _)) (Nat.le_refl _)) hfp (fun h => ⟨by rw [HFa.out h]; rfl, rfl⟩)
    exact blk_set (blk_set (blk_set hB2.out))
  · rw [errV_no hr] at HT
    rw [bad_flag hr] at HG
    go_enter Tryd.func21, Tryd.ntmps21
    go_wp2_with (first
      | (go_at_call 19; refine HT.out.mono ?_; clear HT; rintro en w1 ⟨rfl, h1, hg1⟩
         have hB1 := (hg1.block W.heap.size (by simp) (by simp; omega)).trans hB0
         have k0 : w1.cell? ⟨W.heap.size, 0, none⟩ = some (.string ⟨#[]⟩) := by simp [World.cell?, hB1]
         have k1 : w1.cell? ⟨W.heap.size, 1, none⟩ = some (.bool false) := by simp [World.cell?, hB1]
         have kf : ∀ i, w1.frozen? ⟨W.heap.size, i, none⟩ = false := fun i => by simp [World.frozen?, hB1]
         replace h1 := hid h1
         replace hg1 := hid (grown_trans (grown_alloc (grown_refl W (some b)) _) hg1)
         replace hB1 := hid hB1)
      | go_in)
    rw [HG.out]
    refine opn_fin (t := t) (o := false) rfl rfl rfl ?_ (errV_no hr) (((h1.out.far (by omega)).far (by omega)).far (by omega)) (grown_newc (grown_newc (grown_newc hg1.out (Nat.le_refl _)) (Nat.le_refl _)) (Nat.le_refl _)) hle (fun h => absurd h hr)
    exact blk_set (blk_set (blk_set hB1.out))
end Go.Proofs.YticmoofjjikefaaDoor

namespace Go.Proofs.YticmoofjjikefaaDoor
open Go.RowKit Go.Lib

theorem ints_many (s : List UInt8) : ∀ (n : Nat) (r : Cd.Rd), Cd.Rd.intsL s n r = Cd.Rd.manyL (gInt s) n r
  | 0, _ => rfl
  | n + 1, r => by
    unfold Cd.Rd.intsL Cd.Rd.manyL
    by_cases h : r.fk = 0
    · rw [if_pos h, if_pos h]
      dsimp only
      rw [ints_many s n]
      rfl
    · rw [if_neg h, if_neg h]
def HanPost (b : Nat) (s : List UInt8) (W : World) := EPost RHan (fun cs => ∃ (o : Bool) (va : Option Addr) (vn vc : Nat), cs = [.bool o, .slice va vn vc]) (fun cs => .agg cs.toArray) b s W
theorem han_fin {b : Nat} {s : List UInt8} {W w' : World} {q : Cd.Han × Cd.Rd} {a' : Act} {oB : Nat} {o : Bool} {va : Option Addr} {vn vc : Nat} {ev : Value} (hd : a'.defers = []) (h2 : a'.tmps[2]? = some (.pointer (some ⟨oB, 0, none⟩))) (h3 : a'.tmps[3]? = some ev) (hB : w'.heap[oB]? = some (.cells #[.bool o, .slice va vn vc] 59 (0, 0))) (hev : errV q.2 = ev) (hp : PM w' b s q.2.pos) (hg : W.grownBy w' (some b)) (hq : q.2.pos ≤ s.length) (hr : q.2.fk = 0 → q.2.fa = 0 ∧ q.1.shallow = o ∧ ∃ D, LsM RInt 1 w' D (.slice va vn vc) q.1.ops ∧ ∀ k, D k → W.heap.size ≤ k ∧ k < w'.heap.size ∧ k ≠ b) : bodyPost Tryd.prog Tryd.f23 (HanPost b s W q) .ret a' w' := by
  have c0 : w'.cell? ⟨oB, 0, none⟩ = some (.bool o) := by simp [World.cell?, hB]
  have c1 : w'.cell? ⟨oB, 1, none⟩ = some (.slice va vn vc) := by simp [World.cell?, hB]
  refine bodyPost_ret (v := .tuple #[.agg #[.bool o, .slice va vn vc], ev]) ?_ hd ⟨[.bool o, .slice va vn vc], ⟨o, va, vn, vc, rfl⟩, by rw [hev], hp, hg, hq, fun h => ?_⟩
  · simp [results, Tryd.results23, go_sem, h2, h3, c0, c1]
  · obtain ⟨h1, h2, D, h4, h5⟩ := hr h
    exact ⟨h1, D, ⟨va, vn, vc, by rw [h2], h4⟩, h5⟩
theorem set_same {w : World} {o k i j l : Nat} {x y z : Value} (h : k ≠ o) : (((w.setCell ⟨o, i, none⟩ x).setCell ⟨o, j, none⟩ y).setCell ⟨o, l, none⟩ z).heap[k]? = w.heap[k]? := by
  rw [Below.heap_setCell _ _ _ k (by dsimp only; omega), Below.heap_setCell _ _ _ k (by dsimp only; omega), Below.heap_setCell _ _ _ k (by dsimp only; omega)]

set_option maxRecDepth 100000 in
set_option maxHeartbeats 4000000 in
theorem dhandler_c (W : World) (b : Nat) (s : List UInt8) (q : Nat) (h : PM W b s q) (hs : s.length ≤ 4000000) (hq : q ≤ s.length) :
    Calls Tryd.prog 23 #[.pointer (some ⟨b, 0, none⟩)] W (HanPost b s W (Cd.Rd.han s (Cd.Rd.at_ q))) := by
  have hbl := h.lt
  have HT := hid (dflag_c ((W.alloc (.cells #[.pointer (some ⟨b, 0, none⟩)] 37)).alloc (.cells #[.bool false, .slice none 0 0] 59)) b s q ((h.al _).al _) hs hq)
  have hok := hid (flag_fa s q)
  have hle := flag_pos s q hq
  have HG : Hid (Cd.Rd.han s (Cd.Rd.at_ q) = (⟨(Cd.Rd.flag s (Cd.Rd.at_ q)).1, (Cd.Rd.manyL (gInt s) ((Cd.Rd.flag s (Cd.Rd.at_ q)).2.num s 1).1 ((Cd.Rd.flag s (Cd.Rd.at_ q)).2.num s 1).2).1⟩, (Cd.Rd.manyL (gInt s) ((Cd.Rd.flag s (Cd.Rd.at_ q)).2.num s 1).1 ((Cd.Rd.flag s (Cd.Rd.at_ q)).2.num s 1).2).2)) := by
    rw [Hid]
    unfold Cd.Rd.han
    dsimp only
    rw [ints_many]
  have hB0 : ((W.alloc (.cells #[.pointer (some ⟨b, 0, none⟩)] 37)).alloc (.cells #[.bool false, .slice none 0 0] 59)).heap[W.heap.size + 1]? = some (.cells #[.bool false, .slice none 0 0] 59 (0, 0)) := by
    have := World.alloc_heap_new (W.alloc (.cells #[.pointer (some ⟨b, 0, none⟩)] 37)) (.cells #[.bool false, .slice none 0 0] 59)
    rw [World.size_alloc] at this
    exact this
  have hC0 : ((W.alloc (.cells #[.pointer (some ⟨b, 0, none⟩)] 37)).alloc (.cells #[.bool false, .slice none 0 0] 59)).heap[W.heap.size]? = some (.cells #[.pointer (some ⟨b, 0, none⟩)] 37 (0, 0)) := blk_alloc (World.alloc_heap_new W _)
  clear h
  generalize Cd.Rd.flag s (Cd.Rd.at_ q) = tr at HT hok hle HG
  obtain ⟨t, r⟩ := tr
  dsimp only at HT hok hle HG
  unfold ptrV at HT
  by_cases hr : r.fk = 0
  · have hrd : r = Cd.Rd.at_ r.pos := by have := hok.out hr; rw [this]; rfl
    rw [errV_ok hr] at HT
    have HF := hid (fun (V : World) (hv : PM V b s r.pos) (hc : V.cell? ⟨W.heap.size, 0, none⟩ = some (.pointer (some ⟨b, 0, none⟩))) => list_int V b s r.pos 1 W.heap.size hc (by omega) RInt (gInt s) RInt.ok hv hs hle (by omega) (fun V2 q2 h2 hq2 hc2 => each_int V2 b s q2 W.heap.size h2 hs hq2 hc2))
    rw [← hrd] at HF
    generalize Cd.Rd.manyL (gInt s) (Cd.Rd.num s 1 r).1 (Cd.Rd.num s 1 r).2 = fr at HF HG
    obtain ⟨o, r2⟩ := fr
    dsimp only at HG
    unfold ptrV LPost at HF
    dsimp only at HF
    go_enter Tryd.func23, Tryd.ntmps23
    go_wp2_with (first
      | (go_at_call 43; refine HT.out.mono ?_; clear HT; rintro en w1 ⟨rfl, h1, hg1⟩
         have hB1 := (hg1.block (W.heap.size + 1) (by simp) (by simp; omega)).trans hB0
         have hC1 := (hg1.block W.heap.size (by simp; omega) (by simp; omega)).trans hC0
         have k0 : w1.cell? ⟨W.heap.size + 1, 0, none⟩ = some (.bool false) := by simp [World.cell?, hB1]
         have k1 : w1.cell? ⟨W.heap.size + 1, 1, none⟩ = some (.slice none 0 0) := by simp [World.cell?, hB1]
         have kf : ∀ i, w1.frozen? ⟨W.heap.size + 1, i, none⟩ = false := fun i => by simp [World.frozen?, hB1]
         have kc0 : w1.cell? ⟨W.heap.size, 0, none⟩ = some (.pointer (some ⟨b, 0, none⟩)) := by simp [World.cell?, hC1]
         have kc1 : (w1.setCell ⟨W.heap.size + 1, 0, none⟩ (.bool t)).cell? ⟨W.heap.size, 0, none⟩ = some (.pointer (some ⟨b, 0, none⟩)) := by rw [← kc0]; simp only [World.cell?]; rw [Below.heap_setCell _ _ _ _ (by dsimp only; omega)]
         replace h1 := hid h1
         replace hg1 := hid (grown_trans (grown_alloc (grown_alloc (grown_refl W (some b)) _) _) hg1)
         replace hB1 := hid (blk_set (i := 0) (v := .bool t) hB1)
         replace kc1 := hid kc1
         clear hC1)
      | (go_at_call 44; refine (HF.out _ (h1.out.far (by omega)) kc1.out).mono ?_; clear HF; rintro en w2 ⟨va, vn, vc, rfl, h2, hg2, hq2, hd2⟩
         have hl2 := (Array.getElem?_eq_some_iff.1 hB1.out).1
         have hB2 := (hg2.block (W.heap.size + 1) hl2 (by simp; omega)).trans hB1.out
         have j0 : w2.cell? ⟨W.heap.size + 1, 0, none⟩ = some (.bool t) := by simp [World.cell?, hB2]
         have j1 : w2.cell? ⟨W.heap.size + 1, 1, none⟩ = some (.slice none 0 0) := by simp [World.cell?, hB2]
         have jf : ∀ i, w2.frozen? ⟨W.heap.size + 1, i, none⟩ = false := fun i => by simp [World.frozen?, hB2]
         generalize hev : errV r2 = ev
         replace hev := hid hev
         replace h2 := hid h2
         replace hg2 := hid (grown_trans (grown_newc hg1.out (Nat.le_succ _)) hg2)
         replace hd2 := hid hd2
         replace hl2 := hid hl2
         replace hB2 := hid hB2)
      | go_in)
    rw [HG.out]
    refine han_fin (o := t) (va := va) (vn := vn) (vc := vc) (oB := W.heap.size + 1) rfl rfl rfl ?_ hev.out (((h2.out.far (by omega)).far (by omega)).far (by omega)) (grown_newc (grown_newc (grown_newc hg2.out (Nat.le_succ _)) (Nat.le_succ _)) (Nat.le_succ _)) hq2 (fun h => ?_)
    · exact blk_set (blk_set (blk_set hB2.out))
    · obtain ⟨a1, D, a2, a3⟩ := hd2.out h
      have hl2' := hl2.out
      simp at hl2'
      refine ⟨a1, rfl, D, a2.keep RInt.ok (fun k hk => set_same ?_) (fun _ h => h), fun k hk => ?_⟩
      · have := (a3 k hk).1
        simp at this
        omega
      · obtain ⟨b1, b2, b3⟩ := a3 k hk
        simp at b1
        exact ⟨by omega, by simpa using b2, b3⟩
  · rw [errV_no hr] at HT
    rw [bad_num' hr] at HG
    go_enter Tryd.func23, Tryd.ntmps23
    go_wp2_with (first
      | (go_at_call 43; refine HT.out.mono ?_; clear HT; rintro en w1 ⟨rfl, h1, hg1⟩
         have hB1 := (hg1.block (W.heap.size + 1) (by simp) (by simp; omega)).trans hB0
         have k0 : w1.cell? ⟨W.heap.size + 1, 0, none⟩ = some (.bool false) := by simp [World.cell?, hB1]
         have k1 : w1.cell? ⟨W.heap.size + 1, 1, none⟩ = some (.slice none 0 0) := by simp [World.cell?, hB1]
         have kf : ∀ i, w1.frozen? ⟨W.heap.size + 1, i, none⟩ = false := fun i => by simp [World.frozen?, hB1]
         replace h1 := hid h1
         replace hg1 := hid (grown_trans (grown_alloc (grown_alloc (grown_refl W (some b)) _) _) hg1)
         replace hB1 := hid hB1)
      | go_in)
    rw [HG.out]
    refine han_fin (o := t) (va := none) (vn := 0) (vc := 0) (oB := W.heap.size + 1) rfl rfl rfl ?_ (errV_no hr) (((h1.out.far (by omega)).far (by omega)).far (by omega)) (grown_newc (grown_newc (grown_newc hg1.out (Nat.le_succ _)) (Nat.le_succ _)) (Nat.le_succ _)) hle (fun h => absurd h hr)
    exact blk_set (blk_set (blk_set hB1.out))
end Go.Proofs.YticmoofjjikefaaDoor
