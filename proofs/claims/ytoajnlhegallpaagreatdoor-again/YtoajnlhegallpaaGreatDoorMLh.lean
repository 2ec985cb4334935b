/-
  What the scan of the program's Tokens keeps in memory from round to round.
  What the program's Tokens answers, for every text.
-/
import Derived.Test.YtoajnlhegallpaaGreatDoorMLf
import Derived.Deep.RegionLaw
import Derived.Deep.Cut
set_option linter.unusedVariables false
set_option linter.unusedSimpArgs false
set_option maxRecDepth 100000
set_option maxHeartbeats 4000000
namespace Go.Proofs.YtoajnlhegallpaaGreatDoor
namespace Lr
open Go.RowKit

theorem step_append_own {P : Program} {ops : Array Oper} {o : Oper} {a : Act} {w : World} {K : Act → World → Prop} {Q : Exit → Act → World → Prop} {E : Prop}
  (hg : o.guard = none) (s x : Operand) (t : TypeId) (hop : o.op = Op.call { callee := Callee.builtin Builtin.append, args := #[s, x], argTypes := #[t, t] })
  (base : Nat) (e : TypeId) (i : TypeInfo) (z : Value) (size bytes : Nat) (h1 : P.underlying t = some (.slice e)) (h2 : P.info? e = some i) (h3 : i.zero = some z) (h4 : i.size = size) (h5 : i.bytes = bytes) (h6 : z.cells.size = size) (h7 : 0 < size)
  (v : Value) (n : Nat) (xs : List Value) (hs : a.eval s = v) (hown : w.ownsRow base e size v n xs)
  (ad : Addr) (m c : Nat) (news : List Value) (hx : a.eval x = .slice (some ad) m c) (hn : news.length = m * size) (hc : ∀ j u, news[j]? = some u → w.cell? (ad.add j) = some u) (h1c : ∀ u ∈ news, u.oneCell' = true)
  (b1 : n + m ≤ maxLen) (b2 : (n + m) * bytes ≤ 140737488355328) (hb : base ≤ w.heap.size)
  (hK : ∀ v' w', w'.ownsRow base e size v' (n + m) (xs ++ news) → w.grownBy w' v.ownBlock → K (a.put o.dst v') w') :
  if Region.wanted o (yielded ops a.tmps) = true then Oper.wp P o a w K Q else E := by
 have hw : Region.wanted o (yielded ops a.tmps) = true := by simp [Region.wanted, hg]
 rw [if_pos hw]
 exact wp_append_own w s x t hop base e i z size bytes h1 h2 h3 h4 h5 h6 h7 v n xs hs hown ad m c news hx hn hc h1c b1 b2 hb (fun v' w' r1 r2 _ => hK v' w' r1 r2)

def startW (w : World) : World := (w.alloc (.cells #[.int .i64 0, .int .i64 0] 27)).alloc (.cells #[.int .i64 0, .int .i64 0] 27)
theorem startW_size (w : World) : (startW w).heap.size = w.heap.size + 1 + 1 := by simp [startW]

def St (s : ByteArray) (w : World) (v : Value) (acc : List Lx.Tk) (pos : Nat) (wr : World) : Prop :=
 wr.heap[w.heap.size + 1 + 1]? = some (.stringIter s pos) ∧ wr.ownsRow (w.heap.size + 3) 41 4 v acc.length (cellsOf acc) ∧ Below (w.heap.size + 1 + 1) (startW w) wr

section
variable {s : ByteArray} {w wr : World} {v : Value} {acc : List Lx.Tk} {pos : Nat}

theorem St.size (h : St s w v acc pos wr) : w.heap.size + 1 + 1 < wr.heap.size := (Array.getElem?_eq_some_iff.1 h.1).1

theorem St.start (s : ByteArray) (w : World) : St s w (.slice none 0 0) [] 0 ((startW w).iter s 0) := by
 refine ⟨?_, World.ownsRow_nil _ _ _ _, ?_⟩
 ·have := World.iter_heap (startW w) s 0
  rw [startW_size] at this
  exact this
 ·have := (Below.refl (w.heap.size + 1 + 1) (startW w)).alloc (by rw [startW_size]; exact Nat.le_refl _) (.stringIter s 0)
  exact this

theorem St.iterAt (h : St s w v acc pos wr) (pos' : Nat) : St s w v acc pos' (wr.iterAt (w.heap.size + 1 + 1) s pos') :=
 ⟨Lib.iterAt_heap wr _ s pos pos' h.1, ownsRow_iterAt h.2.1 (by omega) s pos', Lib.below_iterAt h.2.2 (Nat.le_refl _) s pos'⟩

theorem St.below (h : St s w v acc pos wr) {w2 : World} (hb : Below wr.heap.size wr w2) : St s w v acc pos w2 :=
 ⟨(hb.block _ h.size).trans h.1, own_below h.2.1 hb, h.2.2.trans (hb.mono (Nat.le_of_lt h.size))⟩

theorem St.alloc (h : St s w v acc pos wr) (o : Obj) : St s w v acc pos (wr.alloc o) :=
 h.below ((Below.refl _ _).alloc (Nat.le_refl _) o)

theorem St.drew (h : St s w v acc pos wr) : St s w v acc pos wr.drew := ⟨h.1, h.2.1, h.2.2.drew⟩

theorem St.setCell (h : St s w v acc pos wr) {p : Addr} (hp : w.heap.size + 1 + 1 < p.block) (hv : v.ownBlock ≠ some p.block) (u : Value) : St s w v acc pos (wr.setCell p u) :=
 ⟨(Below.heap_setCell _ _ _ _ (by omega)).trans h.1, ownsRow_setCell_other h.2.1 hv u, h.2.2.setCell (by omega) u⟩

theorem St.own_lt (h : St s w v acc pos wr) {T : Nat} (hT : wr.heap.size ≤ T) : v.ownBlock ≠ some T := by
 intro e
 have := (h.2.1.lt T e).2
 omega

theorem St.grown (h : St s w v acc pos wr) {v' : Value} {w2 : World} {t : Lx.Tk} (hown : w2.ownsRow (w.heap.size + 3) 41 4 v' (acc.length + 1) (cellsOf acc ++ tkCells t)) (hg : wr.grownBy w2 v.ownBlock) : St s w v' (acc ++ [t]) pos w2 := by
 refine ⟨?_, own_app hown, h.2.2.grown hg (Nat.le_of_lt h.size) (fun k hk => by have := (h.2.1.lt k hk).1; omega)⟩
 rw [hg.block _ h.size]
 ·exact h.1
 ·intro e
  have := (h.2.1.lt _ e.symm).1
  omega

theorem St.flt (h : Below (w.heap.size + 1 + 1) (startW w) wr) :
  (wr.cell? ⟨w.heap.size, 0, none⟩ = some (.int .i64 0) ∧ wr.cell? ⟨w.heap.size, 1, none⟩ = some (.int .i64 0) ∧ wr.cell? ⟨w.heap.size + 1, 0, none⟩ = some (.int .i64 0) ∧ wr.cell? ⟨w.heap.size + 1, 1, none⟩ = some (.int .i64 0)) ∧
  (wr.frozen? ⟨w.heap.size, 0, none⟩ = false ∧ wr.frozen? ⟨w.heap.size, 1, none⟩ = false ∧ wr.frozen? ⟨w.heap.size + 1, 0, none⟩ = false ∧ wr.frozen? ⟨w.heap.size + 1, 1, none⟩ = false) := by
 obtain ⟨hc, hf⟩ := bcell h
 refine ⟨⟨(hc _ _ (by omega)).trans (by simp [startW]), (hc _ _ (by omega)).trans (by simp [startW]), (hc _ _ (by omega)).trans (by simp [startW]), (hc _ _ (by omega)).trans (by simp [startW])⟩,
  ⟨(hf _ _ (by omega)).trans (by simp [startW]), (hf _ _ (by omega)).trans (by simp [startW]), (hf _ _ (by omega)).trans (by simp [startW]), (hf _ _ (by omega)).trans (by simp [startW])⟩⟩

theorem St.old (h : Below (w.heap.size + 1 + 1) (startW w) wr) : Below w.heap.size w wr :=
 (((Below.refl _ w).alloc (Nat.le_refl _) _).alloc (by simp) _).trans (h.mono (by omega))

theorem new_cells1 {w : World} (o1 : Obj) (t : Lx.Tk) (e : TypeId) : ∀ j u, (tkCells t)[j]? = some u → ((w.alloc o1).alloc (.cells #[.int .i64 t.kind, .int .i64 t.pos, .string ⟨t.text.toArray⟩, .int .i64 t.num] e)).cell? ((⟨w.heap.size + 1, 0, none⟩ : Addr).add j) = some u := by
 have h := new_cells (w := w.alloc o1) t e
 have e1 : (w.alloc o1).heap.size = w.heap.size + 1 := by simp
 rw [e1] at h
 exact h

def TokIn (W : World) (T : Nat) (a0 a1 a2 a3 : Value) : Prop :=
 (W.cell? ⟨T, 0, none⟩ = some a0 ∧ W.cell? ⟨T, 1, none⟩ = some a1 ∧ W.cell? ⟨T, 2, none⟩ = some a2 ∧ W.cell? ⟨T, 3, none⟩ = some a3) ∧
 (W.frozen? ⟨T, 0, none⟩ = false ∧ W.frozen? ⟨T, 1, none⟩ = false ∧ W.frozen? ⟨T, 2, none⟩ = false ∧ W.frozen? ⟨T, 3, none⟩ = false)

theorem TokIn.store {W : World} {T : Nat} {a0 a1 a2 a3 : Value} (h : TokIn W T a0 a1 a2 a3) (b0 b1 b2 b3 : Value) :
  TokIn ((((W.setCell ⟨T, 0, none⟩ b0).setCell ⟨T, 1, none⟩ b1).setCell ⟨T, 2, none⟩ b2).setCell ⟨T, 3, none⟩ b3) T b0 b1 b2 b3 := by
 obtain ⟨⟨c0, c1, c2, c3⟩, f0, f1, f2, f3⟩ := h
 refine ⟨⟨?_, ?_, ?_, ?_⟩, ?_, ?_, ?_, ?_⟩ <;> simp [go_sem, c0, c1, c2, c3, f0, f1, f2, f3]
theorem TokIn.place {W : World} {T : Nat} {a0 a1 a2 a3 : Value} (h : TokIn W T a0 a1 a2 a3) (b1 : Value) : TokIn (W.setCell ⟨T, 1, none⟩ b1) T a0 b1 a2 a3 := by
 obtain ⟨⟨c0, c1, c2, c3⟩, f0, f1, f2, f3⟩ := h
 refine ⟨⟨?_, ?_, ?_, ?_⟩, ?_, ?_, ?_, ?_⟩ <;> simp [go_sem, c0, c1, c2, c3, f0, f1, f2, f3]

theorem St.store (h : St s w v acc pos wr) {T : Nat} (hp : w.heap.size + 1 + 1 < T) (hv : v.ownBlock ≠ some T) (b0 b1 b2 b3 : Value) :
  St s w v acc pos ((((wr.setCell ⟨T, 0, none⟩ b0).setCell ⟨T, 1, none⟩ b1).setCell ⟨T, 2, none⟩ b2).setCell ⟨T, 3, none⟩ b3) :=
 (((h.setCell (p := ⟨T, 0, none⟩) hp hv b0).setCell (p := ⟨T, 1, none⟩) hp hv b1).setCell (p := ⟨T, 2, none⟩) hp hv b2).setCell (p := ⟨T, 3, none⟩) hp hv b3

theorem fin_post {w2 : World} {v' : Value} {ts : List Lx.Tk} (ha : answer s = (0, 0, ts)) (h : St s w v' ts pos w2) :
  TokPost s w (.returned (.tuple #[v', .agg #[.int .i64 0, .int .i64 0]])) ((w2.setCell ⟨w.heap.size, 0, none⟩ (.int .i64 0)).setCell ⟨w.heap.size, 1, none⟩ (.int .i64 0)) := by
 refine ⟨v', by rw [ha]; rfl, ?_, ((St.old h.2.2).setCell (Nat.le_refl _) _).setCell (Nat.le_refl _) _⟩
 rw [ha]
 have h2 := ownsRow_setCell_below (ownsRow_setCell_below h.2.1 (a := ⟨w.heap.size, 0, none⟩) (show w.heap.size < w.heap.size + 3 by omega) (.int .i64 0)) (a := ⟨w.heap.size, 1, none⟩) (show w.heap.size < w.heap.size + 3 by omega) (.int .i64 0)
 refine ⟨h2.1, ?_⟩
 rcases h2.2 with h3 | ⟨g, cap, cur, hv, hb, r⟩
 ·exact .inl h3
 ·exact .inr ⟨g, cap, cur, hv, by omega, r⟩
theorem bad_post {w2 : World} {k p : Nat} (ha : answer s = (k, p, [])) (h : Below w.heap.size w w2) : TokPost s w (.returned (.tuple #[.slice none 0 0, .agg #[.int .i64 k, .int .i64 p]])) w2 :=
 ⟨_, by rw [ha]; rfl, by rw [ha]; exact World.ownsRow_nil _ _ _ _, h⟩

theorem flt_below {wq : World} (hb : Below w.heap.size w wq) (a b c d : Value) :
  Below w.heap.size w ((((wq.setCell ⟨w.heap.size + 1, 0, none⟩ a).setCell ⟨w.heap.size + 1, 1, none⟩ b).setCell ⟨w.heap.size, 0, none⟩ c).setCell ⟨w.heap.size, 1, none⟩ d) :=
 (((hb.setCell (Nat.le_succ _) _).setCell (Nat.le_succ _) _).setCell (Nat.le_refl _) _).setCell (Nat.le_refl _) _
theorem below_alloc_drew {wq : World} (hb : Below w.heap.size w wq) (o : Obj) : Below w.heap.size w (wq.alloc o).drew := (hb.alloc hb.size o).drew

theorem rest_list (s : ByteArray) (pos : Nat) : (s.extract pos s.size).data.toList = s.data.toList.drop pos := by
 rw [extract_list]
 exact List.take_of_length_le (by simp)
theorem rest_head (s : ByteArray) (pos : Nat) (h : pos < s.size) : ∃ h2 : 0 < (s.extract pos s.size).size, (s.extract pos s.size)[0] = s[pos] := by
 have h2 : 0 < (s.extract pos s.size).size := by rw [extract_size s pos s.size (Nat.le_refl _)]; omega
 obtain ⟨_, e⟩ := extract_get s pos s.size 0 (Nat.le_refl _) h2
 exact ⟨h2, e⟩
end
end Lr

namespace Lr
open Go.RowKit

theorem ltokens_any (s : ByteArray) (w : World) (ev : Value) (hmax : s.size ≤ 140737488351232) (h2 : 2 < w.heap.size) (hv : w.cell? ⟨2, 0, none⟩ = some ev) (hev : ev = .nilIface ∨ ∃ te pe, ev = .iface te pe) :
  Calls Tryz.prog 29 #[.string s] w fun e w' => TokPost s w e w' := by
 obtain ⟨i0, hi, hz0, hz1, hz2⟩ := info_parts Tryz.info41
 by_cases hlong : 3000 < s.size
 ·have HA := hid (answer_long hlong)
  go_enter Tryz.func29, Tryz.ntmps29
  go_wp2
  go_step3
  go_wp2
  rw [Exit.noGoto_ret]
  refine bodyPost_ret (v := .tuple #[.slice none 0 0, fltVal 1 0]) (by simp [results, Tryz.results29, go_sem, fltVal]) rfl ⟨_, by rw [HA.out], by rw [HA.out]; exact World.ownsRow_nil _ _ _ _, (Below.refl _ _).alloc (Nat.le_refl _) _⟩
 ·have hs : s.size ≤ 3000 := by omega
  have HST := hid (St.start s w)
  go_enter Tryz.func29, Tryz.ntmps29
  go_wp2
  go_step3
  go_wp2
  go_step3
  go_wp2
  go_loopw [4, 6] (fun v nx wr => ∃ (pos n : Nat) (acc : List Lx.Tk), nx = .int .i64 n ∧ St s w v acc pos wr ∧ Hid (Inv s acc pos n)) (fun _ _ wr => s.size - wr.iterPos (w.heap.size + 1 + 1))
  case atStart => exact ⟨0, 0, [], rfl, HST.out, hid (inv_start s)⟩
  case round =>
   obtain ⟨pos, n, acc, rfl, hst, HI⟩ := hrel
   have hsz := hst.size
   have hlt1 : w.heap.size + 1 < wr.heap.size := by omega
   have hlt0 : w.heap.size < wr.heap.size := by omega
   by_cases hp : pos < s.size
   ·by_cases hskip : pos < n
    ·have hnx : ∀ ty, (Instr.next (.pointer (some ⟨w.heap.size + 1 + 1, 0, none⟩)) true ty).run Tryz.prog wr = _ := fun ty => Lib.run_next_any_at wr (w.heap.size + 1 + 1) s pos ty hst.1 hp
     have HS2 := hid (hst.iterAt (pos + (Utf8.decode s pos).2))
     have HI2 := hid (inv_skip HI.out hp hskip)
     have HW := hid (show 1 ≤ (Utf8.decode s pos).2 by
      by_cases ha : (s[pos]).toNat < 128
      ·rw [decode_asc s pos hp ha]; exact Nat.le_refl _
      ·exact (decode_high s pos hp (by omega)).2)
     have HT := hid hst.1
     clear hst
     go_wp2
     go_roundw
     case rel => exact ⟨_, n, acc, rfl, HS2.out, HI2⟩
     case measure =>
      have := HW.out
      simp only [World.iterPos, HS2.out.1, HT.out]
      omega
    ·have hn : n ≤ pos := by omega
     by_cases hasc : (s[pos]).toNat < 128
     ·obtain ⟨wq, hwq⟩ : ∃ wq, wq = wr.iterAt (w.heap.size + 1 + 1) s (pos + 1) := ⟨_, rfl⟩
      have hst2 := hst.iterAt (pos + 1)
      have hnx : ∀ ty, (Instr.next (.pointer (some ⟨w.heap.size + 1 + 1, 0, none⟩)) true ty).run Tryz.prog wr = .ok (.tuple #[.bool true, .int .i64 pos, .int .i32 (s[pos]).toNat]) wq := fun ty => by rw [hwq]; exact Lib.run_next_ascii_at wr (w.heap.size + 1 + 1) s pos ty hst.1 hp hasc
      rw [← hwq] at hst2
      have HT := hid hst.1
      have HS2 := hid hst2
      have hsq := hst2.size
      have hq1 : w.heap.size + 1 < wq.heap.size := by omega
      have hq0 : w.heap.size < wq.heap.size := by omega
      obtain ⟨⟨c0, c1, c2, c3⟩, f0, f1, f2, f3⟩ := St.flt hst2.2.2
      clear hwq hst hst2 hskip
      cases hb : Lx.isBl s[pos] with
      | true =>
       have hcl : clB s[pos] = 1 := by simp [clB, hb]
       have HI2 := hid (inv_blank HI.out hp hn hb)
       clear hb
       go_wp2_with (go_at_call 54; refine (classOf_lo s[pos] _ hasc).mono ?_; rintro e w' ⟨rfl, rfl⟩; rw [hcl])
       go_roundw
       case rel => exact ⟨pos + 1, n, acc, rfl, HS2.out.alloc _, HI2⟩
       case measure =>
        simp only [World.iterPos, (HS2.out.alloc _).1, HT.out]
        omega
      | false =>
       by_cases hh : (s[pos]).toNat = 35
       ·have hcl : clB s[pos] = 2 := clB_hash hh
        rcases idx_nl (s.data.toList.drop pos) with ⟨hx, _⟩ | ⟨k, hx, _, _, hkl, _⟩
        ·have hx2 : Lib.indexByte (s.extract pos s.size).data.toList (10 : Int).toNat.toUInt8 = -1 := by rw [rest_list]; exact hx
         have HA := hid (rem_end hs HI.out hp hn hh hx)
         have hbnd : acc.length ≤ 3000 := by have := HI.out.1; have := HI.out.2.1; omega
         clear hb hh hx
         go_wp2_with (first | (go_at_call 54; refine (classOf_lo s[pos] _ hasc).mono ?_; rintro e w' ⟨rfl, rfl⟩; rw [hcl]) | (go_at_call 55; refine (Tryz.strings_IndexByte _ _ _).mono ?_; rintro e w' ⟨rfl, rfl⟩; rw [hx2]))
         go_region_law (refine step_append_own rfl (.tmp 82) (.tmp 86) 53 rfl (w.heap.size + 3) 41 i0 (.agg #[.int .i64 0, .int .i64 0, .string ⟨#[]⟩, .int .i64 0]) 4 40 Tryz.underlying53 hi hz0 hz1 hz2 rfl (by decide) u4 acc.length (cellsOf acc) (by simp [Act.eval]) (by exact ((HS2.out.alloc _).alloc _).2.1) ⟨wq.heap.size + 1, 0, none⟩ 1 1 (tkCells ⟨0, s.size, [], 0⟩) (by simp [Act.eval]) rfl (by exact new_cells1 _ _ _) (one_cells _) (by unfold maxLen; omega) (by omega) (by simp; omega) ?_; intro v' w2 hown2 hgrow; have HG := hid (St.grown (by exact ((HS2.out.alloc _).alloc _).drew) hown2 hgrow); obtain ⟨⟨d0, d1, d2, d3⟩, g0, g1, g2, g3⟩ := St.flt HG.out.2.2)
         all_goals
          try go_wp2
          rw [Exit.noGoto_ret]
          refine bodyPost_ret (v := .tuple #[v', .agg #[.int .i64 0, .int .i64 0]]) (by simp [results, Tryz.results29, go_sem, d0, d1]) rfl ?_
          exact fin_post HA.out HG.out
        ·have hx2 : Lib.indexByte (s.extract pos s.size).data.toList (10 : Int).toNat.toUInt8 = (k : Int) := by rw [rest_list]; exact hx
         have HI2 := hid (inv_hash HI.out hp hn hh hx)
         have hk3 : k ≤ 3000 := by simp at hkl; omega
         clear hb hh hx
         go_wp2_with (first | (go_at_call 54; refine (classOf_lo s[pos] _ hasc).mono ?_; rintro e w' ⟨rfl, rfl⟩; rw [hcl]) | (go_at_call 55; refine (Tryz.strings_IndexByte _ _ _).mono ?_; rintro e w' ⟨rfl, rfl⟩; rw [hx2]))
         go_roundw
         case rel => exact ⟨pos + 1, pos + k, acc, by go_num, HS2.out.alloc _, HI2⟩
         case measure =>
          simp only [World.iterPos, (HS2.out.alloc _).1, HT.out]
          omega
       ·have hsd : (s.extract pos s.size).size ≤ 3000 := by rw [extract_size s pos s.size (Nat.le_refl _)]; omega
        have HSD := hid hsd
        obtain ⟨hr0, hrh⟩ := rest_head s pos hp
        have HRH := hid hrh
        have HRL := hid (rest_list s pos)
        have hbnd : acc.length ≤ 3000 := by have := HI.out.1; have := HI.out.2.1; omega
        clear hsd hrh
        cases hd : Lx.isDig s[pos] with
        | true =>
         have hcl : clB s[pos] = 3 := by simp [clB, hb, hh, hd]
         have hvq : (wq.alloc (.cells #[.int .i64 0, .int .i64 0, .string ⟨#[]⟩, .int .i64 0] 41)).cell? ⟨2, 0, none⟩ = some ev := by
          have h1 := (St.old (HS2.out.alloc (.cells #[.int .i64 0, .int .i64 0, .string ⟨#[]⟩, .int .i64 0] 41)).2.2).cell (p := ⟨2, 0, none⟩) h2
          rw [h1]; exact hv
         have HVQ := hid hvq
         have HDG := hid (show Lx.isDig ((s.extract pos s.size)[0]'hr0) = true by rw [HRH.out]; exact hd)
         have HB := hid hb
         have HH := hid hh
         clear hb hh hd hvq
         go_wp2_with (go_at_call 54; refine (classOf_lo s[pos] _ hasc).mono ?_; rintro e w' ⟨rfl, rfl⟩; rw [hcl])
         refine (lnumber_any _ _ ev HSD.out hr0 HDG.out (by simp; omega) HVQ.out hev).mono ?_
         rintro e w2 ⟨hb2, ⟨t, m, ht, rfl⟩ | ⟨ht, rfl⟩⟩
         ·have HS3 := hid ((HS2.out.alloc (.cells #[.int .i64 0, .int .i64 0, .string ⟨#[]⟩, .int .i64 0] 41)).below hb2)
          have ht2 := tok_shift pos ht
          rw [HRL.out] at ht2
          have hlen := step_len hp ht2
          have HI2 := hid (inv_tok HI.out hp hn HB.out HH.out ht2)
          have hm0 : ((m : Int) == 0) = false := by simp; omega
          obtain ⟨⟨d0, d1, d2, d3⟩, g0, g1, g2, g3⟩ := four_cells hb2
          have hlt2 : wq.heap.size < w2.heap.size := by have := hb2.size; simp at this; omega
          clear ht ht2 hb2
          simp only [tkVal]
          have hTne := HS2.out.own_lt (Nat.le_refl _)
          have HTI := hid (TokIn.store ⟨⟨d0, d1, d2, d3⟩, g0, g1, g2, g3⟩ (.int .i64 t.kind) (.int .i64 t.pos) (.string ⟨t.text.toArray⟩) (.int .i64 t.num))
          have HS4 := hid (HS3.out.store hsq hTne (.int .i64 t.kind) (.int .i64 t.pos) (.string ⟨t.text.toArray⟩) (.int .i64 t.num))
          have HTNE := hid hTne
          have hm3 : m ≤ 3000 := by omega
          clear hTne hlen
          go_upto_region 26 with (fail)
          clear d0 d1 d2 d3 g0 g1 g2 g3
          generalize ((((w2.setCell ⟨wq.heap.size, 0, none⟩ (.int .i64 t.kind)).setCell ⟨wq.heap.size, 1, none⟩ (.int .i64 t.pos)).setCell ⟨wq.heap.size, 2, none⟩ (.string ⟨t.text.toArray⟩)).setCell ⟨wq.heap.size, 3, none⟩ (.int .i64 t.num)) = W at *
          obtain ⟨⟨d0, d1, d2, d3⟩, g0, g1, g2, g3⟩ := HTI.out
          have HTI2 := hid (HTI.out.place (.int .i64 pos))
          have HS5 := hid (HS4.out.setCell (p := ⟨wq.heap.size, 1, none⟩) hsq HTNE.out (.int .i64 pos))
          go_upto_region 29 with (fail)
          clear d0 d1 d2 d3 g0 g1 g2 g3 HTI
          generalize W.setCell ⟨wq.heap.size, 1, none⟩ (.int .i64 pos) = W2 at *
          obtain ⟨⟨d0, d1, d2, d3⟩, g0, g1, g2, g3⟩ := HTI2.out
          have hszW := HS5.out.size
          go_wp2_with (at_builtin; go_must (refine wpList_append_own _ rfl (.tmp 71) (.tmp 73) 53 rfl (w.heap.size + 3) 41 i0 (.agg #[.int .i64 0, .int .i64 0, .string ⟨#[]⟩, .int .i64 0]) 4 40 Tryz.underlying53 hi hz0 hz1 hz2 rfl (by decide) u4 acc.length (cellsOf acc) rfl (by exact (HS5.out.alloc _).2.1) ⟨W2.heap.size, 0, none⟩ 1 1 (tkCells ⟨t.kind, pos, t.text, t.num⟩) rfl rfl (by exact new_cells ⟨t.kind, pos, t.text, t.num⟩ 41) (one_cells _) (by unfold maxLen; omega) (by omega) (by simp; omega) ?_); intro v' w3 hown3 hgrow _)
          have HG := hid (St.grown (HS5.out.alloc _) hown3 hgrow)
          go_roundw
          case rel => exact ⟨pos + 1, pos + m, _, by go_num, HG.out, HI2⟩
          case measure =>
           simp only [World.iterPos, HG.out.1, HT.out]
           omega
         ·have HS3 := hid ((HS2.out.alloc (.cells #[.int .i64 0, .int .i64 0, .string ⟨#[]⟩, .int .i64 0] 41)).below hb2)
          have ht2 := tok_shift_bad pos ht
          rw [HRL.out] at ht2
          have HA := hid (inv_bad hs HI.out hp hn HB.out HH.out ht2)
          obtain ⟨⟨d0, d1, d2, d3⟩, g0, g1, g2, g3⟩ := four_cells hb2
          have hlt2 : wq.heap.size < w2.heap.size := by have := hb2.size; simp at this; omega
          have hTne := HS2.out.own_lt (Nat.le_refl _)
          have HS4 := hid (HS3.out.store hsq hTne (.int .i64 0) (.int .i64 0) (.string ⟨#[]⟩) (.int .i64 0))
          clear ht ht2 hb2 hTne
          simp only [tkVal]
          go_upto_region 26 with (fail)
          clear d0 d1 d2 d3 g0 g1 g2 g3 c0 c1 c2 c3 f0 f1 f2 f3
          generalize ((((w2.setCell ⟨wq.heap.size, 0, none⟩ (.int .i64 0)).setCell ⟨wq.heap.size, 1, none⟩ (.int .i64 0)).setCell ⟨wq.heap.size, 2, none⟩ (.string ⟨#[]⟩)).setCell ⟨wq.heap.size, 3, none⟩ (.int .i64 0)) = W at *
          obtain ⟨⟨c0, c1, c2, c3⟩, f0, f1, f2, f3⟩ := St.flt HS4.out.2.2
          go_wp2_with fail
          go_region
          go_wp2
          rw [Exit.noGoto_ret]
          refine bodyPost_ret (v := .tuple #[.slice none 0 0, .agg #[.int .i64 3, .int .i64 pos]]) (by simp [results, Tryz.results29, go_sem, c0, c1]) rfl (bad_post HA.out (flt_below (St.old HS4.out.2.2) _ _ _ _).drew)
        | false =>
         cases hl : Lx.isLet s[pos] with
         | true =>
          have hcl : clB s[pos] = 4 := by simp [clB, hb, hh, hd, hl]
          have HDG := hid (show Lx.isDig ((s.extract pos s.size)[0]'hr0) = false by rw [HRH.out]; exact hd)
          have HLG := hid (show Lx.isLet ((s.extract pos s.size)[0]'hr0) = true by rw [HRH.out]; exact hl)
          have HB := hid hb
          have HH := hid hh
          clear hb hh hd hl
          go_wp2_with (go_at_call 54; refine (classOf_lo s[pos] _ hasc).mono ?_; rintro e w' ⟨rfl, rfl⟩; rw [hcl])
          refine (lname_any _ _ hr0 HDG.out HLG.out).mono ?_
          rintro e w2 ⟨hb2, ⟨t, m, ht, rfl⟩ | ⟨ht, rfl⟩⟩
          ·have HS3 := hid ((HS2.out.alloc (.cells #[.int .i64 0, .int .i64 0, .string ⟨#[]⟩, .int .i64 0] 41)).below hb2)
           have ht2 := tok_shift pos ht
           rw [HRL.out] at ht2
           have hlen := step_len hp ht2
           have HI2 := hid (inv_tok HI.out hp hn HB.out HH.out ht2)
           have hm0 : ((m : Int) == 0) = false := by simp; omega
           obtain ⟨⟨d0, d1, d2, d3⟩, g0, g1, g2, g3⟩ := four_cells hb2
           have hlt2 : wq.heap.size < w2.heap.size := by have := hb2.size; simp at this; omega
           clear ht ht2 hb2
           simp only [tkVal]
           have hTne := HS2.out.own_lt (Nat.le_refl _)
           have HTI := hid (TokIn.store ⟨⟨d0, d1, d2, d3⟩, g0, g1, g2, g3⟩ (.int .i64 t.kind) (.int .i64 t.pos) (.string ⟨t.text.toArray⟩) (.int .i64 t.num))
           have HS4 := hid (HS3.out.store hsq hTne (.int .i64 t.kind) (.int .i64 t.pos) (.string ⟨t.text.toArray⟩) (.int .i64 t.num))
           have HTNE := hid hTne
           have hm3 : m ≤ 3000 := by omega
           clear hTne hlen
           go_upto_region 26 with (fail)
           clear d0 d1 d2 d3 g0 g1 g2 g3
           generalize ((((w2.setCell ⟨wq.heap.size, 0, none⟩ (.int .i64 t.kind)).setCell ⟨wq.heap.size, 1, none⟩ (.int .i64 t.pos)).setCell ⟨wq.heap.size, 2, none⟩ (.string ⟨t.text.toArray⟩)).setCell ⟨wq.heap.size, 3, none⟩ (.int .i64 t.num)) = W at *
           obtain ⟨⟨d0, d1, d2, d3⟩, g0, g1, g2, g3⟩ := HTI.out
           have HTI2 := hid (HTI.out.place (.int .i64 pos))
           have HS5 := hid (HS4.out.setCell (p := ⟨wq.heap.size, 1, none⟩) hsq HTNE.out (.int .i64 pos))
           go_upto_region 29 with (fail)
           clear d0 d1 d2 d3 g0 g1 g2 g3 HTI
           generalize W.setCell ⟨wq.heap.size, 1, none⟩ (.int .i64 pos) = W2 at *
           obtain ⟨⟨d0, d1, d2, d3⟩, g0, g1, g2, g3⟩ := HTI2.out
           have hszW := HS5.out.size
           go_wp2_with (at_builtin; go_must (refine wpList_append_own _ rfl (.tmp 71) (.tmp 73) 53 rfl (w.heap.size + 3) 41 i0 (.agg #[.int .i64 0, .int .i64 0, .string ⟨#[]⟩, .int .i64 0]) 4 40 Tryz.underlying53 hi hz0 hz1 hz2 rfl (by decide) u4 acc.length (cellsOf acc) rfl (by exact (HS5.out.alloc _).2.1) ⟨W2.heap.size, 0, none⟩ 1 1 (tkCells ⟨t.kind, pos, t.text, t.num⟩) rfl rfl (by exact new_cells ⟨t.kind, pos, t.text, t.num⟩ 41) (one_cells _) (by unfold maxLen; omega) (by omega) (by simp; omega) ?_); intro v' w3 hown3 hgrow _)
           have HG := hid (St.grown (HS5.out.alloc _) hown3 hgrow)
           go_roundw
           case rel => exact ⟨pos + 1, pos + m, _, by go_num, HG.out, HI2⟩
           case measure =>
            simp only [World.iterPos, HG.out.1, HT.out]
            omega
          ·have HS3 := hid ((HS2.out.alloc (.cells #[.int .i64 0, .int .i64 0, .string ⟨#[]⟩, .int .i64 0] 41)).below hb2)
           have ht2 := tok_shift_bad pos ht
           rw [HRL.out] at ht2
           have HA := hid (inv_bad hs HI.out hp hn HB.out HH.out ht2)
           obtain ⟨⟨d0, d1, d2, d3⟩, g0, g1, g2, g3⟩ := four_cells hb2
           have hlt2 : wq.heap.size < w2.heap.size := by have := hb2.size; simp at this; omega
           have hTne := HS2.out.own_lt (Nat.le_refl _)
           have HS4 := hid (HS3.out.store hsq hTne (.int .i64 0) (.int .i64 0) (.string ⟨#[]⟩) (.int .i64 0))
           clear ht ht2 hb2 hTne
           simp only [tkVal]
           go_upto_region 26 with (fail)
           clear d0 d1 d2 d3 g0 g1 g2 g3 c0 c1 c2 c3 f0 f1 f2 f3
           generalize ((((w2.setCell ⟨wq.heap.size, 0, none⟩ (.int .i64 0)).setCell ⟨wq.heap.size, 1, none⟩ (.int .i64 0)).setCell ⟨wq.heap.size, 2, none⟩ (.string ⟨#[]⟩)).setCell ⟨wq.heap.size, 3, none⟩ (.int .i64 0)) = W at *
           obtain ⟨⟨c0, c1, c2, c3⟩, f0, f1, f2, f3⟩ := St.flt HS4.out.2.2
           go_wp2_with fail
           go_region
           go_wp2
           rw [Exit.noGoto_ret]
           refine bodyPost_ret (v := .tuple #[.slice none 0 0, .agg #[.int .i64 3, .int .i64 pos]]) (by simp [results, Tryz.results29, go_sem, c0, c1]) rfl (bad_post HA.out (flt_below (St.old HS4.out.2.2) _ _ _ _).drew)
         | false =>
          cases hg : Lx.isSg s[pos] with
          | true =>
           have hcl : clB s[pos] = 5 := by simp [clB, hb, hh, hd, hl, hg]
           have HDG := hid (show Lx.isDig ((s.extract pos s.size)[0]'hr0) = false by rw [HRH.out]; exact hd)
           have HLG := hid (show Lx.isLet ((s.extract pos s.size)[0]'hr0) = false by rw [HRH.out]; exact hl)
           have HGG := hid (show Lx.isSg ((s.extract pos s.size)[0]'hr0) = true by rw [HRH.out]; exact hg)
           have HB := hid hb
           have HH := hid hh
           clear hb hh hd hl hg
           go_wp2_with (go_at_call 54; refine (classOf_lo s[pos] _ hasc).mono ?_; rintro e w' ⟨rfl, rfl⟩; rw [hcl])
           refine (lsign_any _ _ HSD.out hr0 HDG.out HLG.out HGG.out).mono ?_
           rintro e w2 ⟨hb2, ⟨t, m, ht, rfl⟩ | ⟨ht, rfl⟩⟩
           ·have HS3 := hid ((HS2.out.alloc (.cells #[.int .i64 0, .int .i64 0, .string ⟨#[]⟩, .int .i64 0] 41)).below hb2)
            have ht2 := tok_shift pos ht
            rw [HRL.out] at ht2
            have hlen := step_len hp ht2
            have HI2 := hid (inv_tok HI.out hp hn HB.out HH.out ht2)
            have hm0 : ((m : Int) == 0) = false := by simp; omega
            obtain ⟨⟨d0, d1, d2, d3⟩, g0, g1, g2, g3⟩ := four_cells hb2
            have hlt2 : wq.heap.size < w2.heap.size := by have := hb2.size; simp at this; omega
            clear ht ht2 hb2
            simp only [tkVal]
            have hTne := HS2.out.own_lt (Nat.le_refl _)
            have HTI := hid (TokIn.store ⟨⟨d0, d1, d2, d3⟩, g0, g1, g2, g3⟩ (.int .i64 t.kind) (.int .i64 t.pos) (.string ⟨t.text.toArray⟩) (.int .i64 t.num))
            have HS4 := hid (HS3.out.store hsq hTne (.int .i64 t.kind) (.int .i64 t.pos) (.string ⟨t.text.toArray⟩) (.int .i64 t.num))
            have HTNE := hid hTne
            have hm3 : m ≤ 3000 := by omega
            clear hTne hlen
            go_upto_region 26 with (fail)
            clear d0 d1 d2 d3 g0 g1 g2 g3
            generalize ((((w2.setCell ⟨wq.heap.size, 0, none⟩ (.int .i64 t.kind)).setCell ⟨wq.heap.size, 1, none⟩ (.int .i64 t.pos)).setCell ⟨wq.heap.size, 2, none⟩ (.string ⟨t.text.toArray⟩)).setCell ⟨wq.heap.size, 3, none⟩ (.int .i64 t.num)) = W at *
            obtain ⟨⟨d0, d1, d2, d3⟩, g0, g1, g2, g3⟩ := HTI.out
            have HTI2 := hid (HTI.out.place (.int .i64 pos))
            have HS5 := hid (HS4.out.setCell (p := ⟨wq.heap.size, 1, none⟩) hsq HTNE.out (.int .i64 pos))
            go_upto_region 29 with (fail)
            clear d0 d1 d2 d3 g0 g1 g2 g3 HTI
            generalize W.setCell ⟨wq.heap.size, 1, none⟩ (.int .i64 pos) = W2 at *
            obtain ⟨⟨d0, d1, d2, d3⟩, g0, g1, g2, g3⟩ := HTI2.out
            have hszW := HS5.out.size
            go_wp2_with (at_builtin; go_must (refine wpList_append_own _ rfl (.tmp 71) (.tmp 73) 53 rfl (w.heap.size + 3) 41 i0 (.agg #[.int .i64 0, .int .i64 0, .string ⟨#[]⟩, .int .i64 0]) 4 40 Tryz.underlying53 hi hz0 hz1 hz2 rfl (by decide) u4 acc.length (cellsOf acc) rfl (by exact (HS5.out.alloc _).2.1) ⟨W2.heap.size, 0, none⟩ 1 1 (tkCells ⟨t.kind, pos, t.text, t.num⟩) rfl rfl (by exact new_cells ⟨t.kind, pos, t.text, t.num⟩ 41) (one_cells _) (by unfold maxLen; omega) (by omega) (by simp; omega) ?_); intro v' w3 hown3 hgrow _)
            have HG := hid (St.grown (HS5.out.alloc _) hown3 hgrow)
            go_roundw
            case rel => exact ⟨pos + 1, pos + m, _, by go_num, HG.out, HI2⟩
            case measure =>
             simp only [World.iterPos, HG.out.1, HT.out]
             omega
           ·have HS3 := hid ((HS2.out.alloc (.cells #[.int .i64 0, .int .i64 0, .string ⟨#[]⟩, .int .i64 0] 41)).below hb2)
            have ht2 := tok_shift_bad pos ht
            rw [HRL.out] at ht2
            have HA := hid (inv_bad hs HI.out hp hn HB.out HH.out ht2)
            obtain ⟨⟨d0, d1, d2, d3⟩, g0, g1, g2, g3⟩ := four_cells hb2
            have hlt2 : wq.heap.size < w2.heap.size := by have := hb2.size; simp at this; omega
            have hTne := HS2.out.own_lt (Nat.le_refl _)
            have HS4 := hid (HS3.out.store hsq hTne (.int .i64 0) (.int .i64 0) (.string ⟨#[]⟩) (.int .i64 0))
            clear ht ht2 hb2 hTne
            simp only [tkVal]
            go_upto_region 26 with (fail)
            clear d0 d1 d2 d3 g0 g1 g2 g3 c0 c1 c2 c3 f0 f1 f2 f3
            generalize ((((w2.setCell ⟨wq.heap.size, 0, none⟩ (.int .i64 0)).setCell ⟨wq.heap.size, 1, none⟩ (.int .i64 0)).setCell ⟨wq.heap.size, 2, none⟩ (.string ⟨#[]⟩)).setCell ⟨wq.heap.size, 3, none⟩ (.int .i64 0)) = W at *
            obtain ⟨⟨c0, c1, c2, c3⟩, f0, f1, f2, f3⟩ := St.flt HS4.out.2.2
            go_wp2_with fail
            go_region
            go_wp2
            rw [Exit.noGoto_ret]
            refine bodyPost_ret (v := .tuple #[.slice none 0 0, .agg #[.int .i64 3, .int .i64 pos]]) (by simp [results, Tryz.results29, go_sem, c0, c1]) rfl (bad_post HA.out (flt_below (St.old HS4.out.2.2) _ _ _ _).drew)
          | false =>
           have hcl : clB s[pos] = 0 := by simp [clB, hb, hh, hd, hl, hg]
           have HA := hid (inv_bad hs HI.out hp hn hb hh (tok_none hp hd hl hg))
           clear hb hh hd hl hg
           go_wp2_with (go_at_call 54; refine (classOf_lo s[pos] _ hasc).mono ?_; rintro e w' ⟨rfl, rfl⟩; rw [hcl])
           go_region
           go_wp2
           rw [Exit.noGoto_ret]
           refine bodyPost_ret (v := .tuple #[.slice none 0 0, .agg #[.int .i64 2, .int .i64 pos]]) (by simp [results, Tryz.results29, go_sem, c0, c1, hq0]) rfl (bad_post HA.out (below_alloc_drew (flt_below (St.old HS2.out.2.2) _ _ _ _) _))
     ·have hhi := decode_high s pos hp (by omega)
      obtain ⟨wq, hwq⟩ : ∃ wq, wq = wr.iterAt (w.heap.size + 1 + 1) s (pos + (Utf8.decode s pos).2) := ⟨_, rfl⟩
      have hst2 := hst.iterAt (pos + (Utf8.decode s pos).2)
      obtain ⟨r, hr⟩ : ∃ r : Int, r = ((Utf8.decode s pos).1 : Int) := ⟨_, rfl⟩
      have hnx : ∀ ty, (Instr.next (.pointer (some ⟨w.heap.size + 1 + 1, 0, none⟩)) true ty).run Tryz.prog wr = .ok (.tuple #[.bool true, .int .i64 pos, .int .i32 r]) wq := fun ty => by rw [hwq, hr]; exact Lib.run_next_any_at wr (w.heap.size + 1 + 1) s pos ty hst.1 hp
      rw [← hwq] at hst2
      have h128 : 128 ≤ r := by omega
      have HS2 := hid hst2
      have hsq := hst2.size
      have e1 : Lx.isDig s[pos] = false := by
       cases hq : Lx.isDig s[pos] with
       | false => rfl
       | true => have := (isDig_iff _).1 hq; omega
      have e2 : Lx.isLet s[pos] = false := by
       cases hq : Lx.isLet s[pos] with
       | false => rfl
       | true => have := (isLet_iff _).1 hq; omega
      have e3 : Lx.isSg s[pos] = false := by
       cases hq : Lx.isSg s[pos] with
       | false => rfl
       | true =>
        have hall : ∀ x ∈ Lx.sigBytes, x.toNat < 128 := by decide
        exact absurd (hall _ (List.contains_iff_mem.1 hq)) hasc
      have e4 : Lx.isBl s[pos] = false := by simp [Lx.isBl]; omega
      have HA := hid (inv_bad hs HI.out hp hn e4 (by omega) (tok_none hp e1 e2 e3))
      clear hwq hst hst2 hskip hr hhi e1 e2 e3 e4
      go_wp2_with fail
      refine (classOf_hi r _ h128).mono ?_
      rintro e w2 ⟨rfl, hb2⟩
      have HS3 := hid ((HS2.out.alloc _).below hb2)
      obtain ⟨⟨c0, c1, c2, c3⟩, f0, f1, f2, f3⟩ := St.flt HS3.out.2.2
      clear hb2
      go_wp2_with fail
      go_region
      go_wp2
      rw [Exit.noGoto_ret]
      refine bodyPost_ret (v := .tuple #[.slice none 0 0, .agg #[.int .i64 2, .int .i64 pos]]) (by simp [results, Tryz.results29, go_sem, c0, c1]) rfl (bad_post HA.out (flt_below (St.old HS3.out.2.2) _ _ _ _).drew)
   ·have hnx : ∀ ty, (Instr.next (.pointer (some ⟨w.heap.size + 1 + 1, 0, none⟩)) true ty).run Tryz.prog wr = _ := fun ty => Lib.run_next_end_at wr (w.heap.size + 1 + 1) s pos ty hst.1 hp
    obtain ⟨⟨c0, c1, c2, c3⟩, f0, f1, f2, f3⟩ := St.flt hst.2.2
    have HA := hid (inv_end hs HI.out hp)
    have HS := hid hst
    clear hst
    go_wp2
    have hbnd : acc.length ≤ 3000 := by have := HI.out.1; have := HI.out.2.1; omega
    go_region_law (refine step_append_own rfl (.tmp 82) (.tmp 86) 53 rfl (w.heap.size + 3) 41 i0 (.agg #[.int .i64 0, .int .i64 0, .string ⟨#[]⟩, .int .i64 0]) 4 40 Tryz.underlying53 hi hz0 hz1 hz2 rfl (by decide) u4 acc.length (cellsOf acc) (by simp [Act.eval]) (by exact (HS.out.alloc _).2.1) ⟨wr.heap.size, 0, none⟩ 1 1 (tkCells ⟨0, s.size, [], 0⟩) (by simp [Act.eval]) rfl (by exact new_cells _ _) (one_cells _) (by unfold maxLen; omega) (by omega) (by simp; omega) ?_; intro v' w2 hown2 hgrow; have HG := hid (St.grown (by exact (HS.out.alloc _).drew) hown2 hgrow); obtain ⟨⟨d0, d1, d2, d3⟩, g0, g1, g2, g3⟩ := St.flt HG.out.2.2)
    all_goals
     try go_wp2
     rw [Exit.noGoto_ret]
     refine bodyPost_ret (v := .tuple #[v', .agg #[.int .i64 0, .int .i64 0]]) (by simp [results, Tryz.results29, go_sem, d0, d1]) rfl ?_
     exact fin_post HA.out HG.out
end Lr
end Go.Proofs.YtoajnlhegallpaaGreatDoor
