/-
  errors.As with the variable of a struct as its target: a nil error, and an error of that very type.
  errors.As with the variable of a struct as its target: what reads and writes memory, and the call itself.
-/
import Derived.Test.YtpjbfdpblgjmfaaGreatDoorMG2
import Derived.LaidEql
import Derived.Stop.Asserts
import Derived.RowKitTokens
set_option linter.unusedVariables false
set_option linter.unusedSimpArgs false
namespace Go.Proofs.YtpjbfdpblgjmfaaGreatDoor
open Go.RowKit Go.Lib Go.Extern.Stop Go.Stop Go.Extern

theorem asNo (t : Value) (w : World) : Calls Tryz.prog 22 #[.nilIface, t] w fun e w' => e = .returned (.bool false) ∧ w' = w := by
  go_enter Tryz.func22, Tryz.ntmps22
  go_wp2
  go_ret
  exact ⟨rfl, rfl⟩
theorem asVP (t : Addr) (w : World) : (ReflectliteValue.unpack (.iface 80 (.pointer (some t)))).run Tryz.prog w = .ok (.agg #[.pointer (some ⟨1, 80, none⟩), .pointer (some ⟨w.heap.size, 0, none⟩), .int .u64 150]) (w.alloc (.cells #[.pointer (some t)] 80)) := by kernel_rfl
theorem asTP (p : Addr) (w : World) : (ReflectliteValue.methodAny (ReflectliteValue.valueError "reflectlite.Value.Type" 0) (fun t _ _ _ => ReflectliteType.toType t) #[.agg #[.pointer (some ⟨1, 80, none⟩), .pointer (some p), .int .u64 150]]).run Tryz.prog w = .ok (.iface 214 (.agg #[.pointer (some ⟨1, 80, none⟩)])) (w) := by kernel_rfl
theorem asMKind (h : Value) (w : World) : (Go.method 368 214 (.agg #[h]) "Kind").run Tryz.prog w = .ok ((124, h)) (w) := by kernel_rfl
theorem asMElem (h : Value) (w : World) : (Go.method 368 214 (.agg #[h]) "Elem").run Tryz.prog w = .ok ((140, .agg #[h])) (w) := by kernel_rfl
theorem asMImplements (h : Value) (w : World) : (Go.method 368 214 (.agg #[h]) "Implements").run Tryz.prog w = .ok ((141, .agg #[h])) (w) := by kernel_rfl
theorem asMAssignableTo (h : Value) (w : World) : (Go.method 368 214 (.agg #[h]) "AssignableTo").run Tryz.prog w = .ok ((138, .agg #[h])) (w) := by kernel_rfl
theorem asKP  (w : World) : ((ReflectliteType.abiMethod fun t => (fun a : Nat => Value.int IntKind.u8 (a : Int)) <$> Rtype.kind t) #[.pointer (some ⟨1, 80, none⟩)]).run Tryz.prog w = .ok (.int .u8 22) (w) := by kernel_rfl
theorem asKB  (w : World) : ((ReflectliteType.abiMethod fun t => (fun a : Nat => Value.int IntKind.u8 (a : Int)) <$> Rtype.kind t) #[.pointer (some ⟨1, 78, none⟩)]).run Tryz.prog w = .ok (.int .u8 25) (w) := by kernel_rfl
theorem asEP  (w : World) : (ReflectliteType.method ReflectliteType.elem #[.agg #[.pointer (some ⟨1, 80, none⟩)]]).run Tryz.prog w = .ok (.iface 214 (.agg #[.pointer (some ⟨1, 78, none⟩)])) (w) := by kernel_rfl
theorem asIB  (w : World) : (ReflectliteType.relation "Implements" ReflectliteType.implements_ #[.agg #[.pointer (some ⟨1, 78, none⟩)], .iface 214 (.agg #[.pointer (some ⟨1, 74, none⟩)])]).run Tryz.prog w = .ok (.bool true) (w) := by kernel_rfl
theorem asTB (v : Value) (w : World) : (ReflectliteType.typeOf #[.iface 78 v]).run Tryz.prog w = .ok (.iface 214 (.agg #[.pointer (some ⟨1, 78, none⟩)])) (w) := by kernel_rfl
theorem asAB  (w : World) : (ReflectliteType.relation "AssignableTo" ReflectliteType.assignableTo #[.agg #[.pointer (some ⟨1, 78, none⟩)], .iface 214 (.agg #[.pointer (some ⟨1, 78, none⟩)])]).run Tryz.prog w = .ok (.bool true) (w) := by kernel_rfl
theorem asVB (k a : Int) (w : World) : (ReflectliteValue.unpack (.iface 78 (.agg #[.int .i64 k, .int .i64 a]))).run Tryz.prog w = .ok (.agg #[.pointer (some ⟨1, 78, none⟩), .pointer (some ⟨w.heap.size, 0, none⟩), .int .u64 153]) (w.alloc (.cells #[.int .i64 k, .int .i64 a] 78)) := by kernel_rfl
theorem asPP (p : Addr) (w : World) : (ReflectliteValue.parts (.agg #[.pointer (some ⟨1, 80, none⟩), .pointer (some p), .int .u64 150])).run Tryz.prog w = .ok (some (80, p, 150)) (w) := by kernel_rfl
theorem asPB (p : Addr) (w : World) : (ReflectliteValue.parts (.agg #[.pointer (some ⟨1, 78, none⟩), .pointer (some p), .int .u64 153])).run Tryz.prog w = .ok (some (78, p, 153)) (w) := by kernel_rfl
theorem asPA (p : Addr) (w : World) : (ReflectliteValue.parts (.agg #[.pointer (some ⟨1, 78, none⟩), .pointer (some p), .int .u64 409])).run Tryz.prog w = .ok (some (78, p, 409)) (w) := by kernel_rfl
theorem asOf  (w : World) : (Rtype.elem? 80).run Tryz.prog w = .ok (some 78) (w) := by kernel_rfl
theorem asMk (p : Addr) (w : World) : (ReflectliteValue.mk 78 p ReflectliteValue.flagAddr).run Tryz.prog w = .ok (.agg #[.pointer (some ⟨1, 78, none⟩), .pointer (some p), .int .u64 409]) (w) := by kernel_rfl
theorem asDi  (w : World) : (Rtype.directlyAssignable 78 78).run Tryz.prog w = .ok (true) (w) := by kernel_rfl
theorem asSz  (w : World) : (sizeOf 78).run Tryz.prog w = .ok (2) (w) := by kernel_rfl
end Go.Proofs.YtpjbfdpblgjmfaaGreatDoor

namespace Go.Proofs.YtpjbfdpblgjmfaaGreatDoor
open Go.RowKit Go.Lib Go.Extern.Stop Go.Stop Go.Extern

theorem asMeth (z : Sem Value) (f : TypeId → Addr → Nat → Nat → Sem Value) (v : Value) :
    ReflectliteValue.method z f #[v] = (do match ← ReflectliteValue.parts v with | none => z | some (t, a, fl) => f t a fl (fl % 32)) := rfl
theorem asIsNil (p q : Addr) (W : World) (h : W.cell? p = some (.pointer (some q))) :
    (ReflectliteValue.method (ReflectliteValue.valueError "reflectlite.Value.IsNil" 0) ReflectliteValue.isNil #[.agg #[.pointer (some ⟨1, 80, none⟩), .pointer (some p), .int .u64 150]]).run Tryz.prog W = .ok (.bool false) W := by
  rw [asMeth]
  simp only [Sem.run_bind, asPP, Result.andThen]
  simp [ReflectliteValue.isNil, loadVar, isAgg, underlying, Tryz.underlying80, h, Result.andThen]
theorem asElem (p q : Addr) (W : World) (h : W.cell? p = some (.pointer (some q))) :
    (ReflectliteValue.method (ReflectliteValue.valueError "reflectlite.Value.Elem" 0) ReflectliteValue.elem #[.agg #[.pointer (some ⟨1, 80, none⟩), .pointer (some p), .int .u64 150]]).run Tryz.prog W = .ok (.agg #[.pointer (some ⟨1, 78, none⟩), .pointer (some q), .int .u64 409]) W := by
  rw [asMeth]
  simp only [Sem.run_bind, asPP, Result.andThen]
  simp [ReflectliteValue.elem, loadVar, isAgg, underlying, Tryz.underlying80, h, Result.andThen, asOf, asMk]
theorem asSetIs (v x : Value) (a b : Addr) : ∃ (G : Option (TypeId × Addr × Nat) → Option (TypeId × Addr × Nat) → Sem Value) (H : Value → Sem Value), ReflectliteValue.set #[v, x] = (ReflectliteValue.parts v >>= fun p => ReflectliteValue.parts x >>= fun q => G p q) ∧ G (some (78, a, 409)) (some (78, b, 153)) = (loadVar 78 b >>= fun val => Rtype.directlyAssignable 78 78 >>= fun c => if c = true then (storeVar 78 a val >>= fun _ => pure (.tuple #[])) else H val) := ⟨_, _, rfl, rfl⟩
theorem asSet (o c : Nat) (k a : Int) (x y : Value) (W : World) (h0 : W.cell? ⟨c, 0, none⟩ = some (.int .i64 k)) (h1 : W.cell? ⟨c, 1, none⟩ = some (.int .i64 a)) (hB : W.heap[o]? = some (.cells #[x, y] 78 (0, 0))) :
    (ReflectliteValue.set #[.agg #[.pointer (some ⟨1, 78, none⟩), .pointer (some ⟨o, 0, none⟩), .int .u64 409], .agg #[.pointer (some ⟨1, 78, none⟩), .pointer (some ⟨c, 0, none⟩), .int .u64 153]]).run Tryz.prog W = .ok (.tuple #[]) ((W.setCell ⟨o, 0, none⟩ (.int .i64 k)).setCell ⟨o, 1, none⟩ (.int .i64 a)) := by
  have t0 : W.cell? ⟨o, 0, none⟩ = some x := by simp [World.cell?, hB]
  have tf : ∀ i, W.frozen? ⟨o, i, none⟩ = false := fun i => by simp [World.frozen?, hB]
  have t1 : (W.setCell ⟨o, 0, none⟩ (.int .i64 k)).cell? ⟨o, 1, none⟩ = some y := by
    have := blk_set (i := 0) (v := .int .i64 k) hB
    simp [World.cell?, this]
  obtain ⟨G, H, e1, e2⟩ := asSetIs (.agg #[.pointer (some ⟨1, 78, none⟩), .pointer (some ⟨o, 0, none⟩), .int .u64 409]) (.agg #[.pointer (some ⟨1, 78, none⟩), .pointer (some ⟨c, 0, none⟩), .int .u64 153]) ⟨o, 0, none⟩ ⟨c, 0, none⟩
  rw [e1]
  simp only [Sem.run_bind, asPA, asPB, Result.andThen]
  rw [e2]
  simp [loadVar, isAgg, underlying, Tryz.underlying78, h0, h1, Result.andThen, asDi, asSz, storeVar, Value.cells, loadCells, loadCellsFrom, storeCells, Addr.add]
  rw [run_store Tryz.prog W ⟨o, 0, none⟩ _ _ (by rfl)]
  simp [t0, tf, Result.andThen]
  rw [run_store Tryz.prog _ ⟨o, 1, none⟩ _ _ (by rfl)]
  simp [t1, tf, Result.andThen, World.frozen?_setCell]

set_option maxRecDepth 100000 in
set_option maxHeartbeats 8000000 in
theorem asYes (k a : Int) (o : Nat) (x y : Value) (w : World) (hg : w.cell? ⟨0, 0, none⟩ = some (.iface 214 (.agg #[.pointer (some ⟨1, 74, none⟩)]))) (hB : w.heap[o]? = some (.cells #[x, y] 78 (0, 0))) :
    Calls Tryz.prog 22 #[.iface 78 (.agg #[.int .i64 k, .int .i64 a]), .iface 80 (.pointer (some ⟨o, 0, none⟩))] w fun ev w' => ev = .returned (.bool true) ∧ w' = (((((w.alloc (.cells #[.pointer (some ⟨o, 0, none⟩)] 80)).alloc (.cells #[.pointer (some ⟨1, 80, none⟩), .pointer (some ⟨w.heap.size, 0, none⟩), .int .u64 150] 153)).alloc (.cells #[.pointer (some ⟨1, 80, none⟩), .pointer (some ⟨w.heap.size, 0, none⟩), .int .u64 150] 153)).alloc (.cells #[.int .i64 k, .int .i64 a] 78)).setCell ⟨o, 0, none⟩ (.int .i64 k)).setCell ⟨o, 1, none⟩ (.int .i64 a) := by
  have f1 := @run_callFunc_extern Tryz.prog 57 _ (fun args => ReflectliteValue.unpack (args.getD 0 (.tuple #[]))) Tryz.func57 (by kernel_rfl) (by kernel_rfl) (by kernel_rfl) (by kernel_rfl)
  have f2 := @run_callFunc_extern Tryz.prog 58 _ (ReflectliteValue.methodAny (ReflectliteValue.valueError "reflectlite.Value.Type" 0) (fun t _ _ _ => ReflectliteType.toType t)) Tryz.func58 (by kernel_rfl) (by kernel_rfl) (by kernel_rfl) (by kernel_rfl)
  have f3 := @run_callFunc_extern Tryz.prog 59 _ (ReflectliteValue.method (ReflectliteValue.valueError "reflectlite.Value.IsNil" 0) ReflectliteValue.isNil) Tryz.func59 (by kernel_rfl) (by kernel_rfl) (by kernel_rfl) (by kernel_rfl)
  have f4 := @run_callFunc_extern Tryz.prog 124 _ (ReflectliteType.abiMethod fun t => do pure (.int .u8 (← Rtype.kind t))) Tryz.func124 (by kernel_rfl) (by kernel_rfl) (by kernel_rfl) (by kernel_rfl)
  have f5 := @run_callFunc_extern Tryz.prog 140 _ (ReflectliteType.method ReflectliteType.elem) Tryz.func140 (by kernel_rfl) (by kernel_rfl) (by kernel_rfl) (by kernel_rfl)
  have f6 := @run_callFunc_extern Tryz.prog 141 _ (ReflectliteType.relation "Implements" ReflectliteType.implements_) Tryz.func141 (by kernel_rfl) (by kernel_rfl) (by kernel_rfl) (by kernel_rfl)
  have f7 := @run_callFunc_extern Tryz.prog 91 _ ReflectliteType.typeOf Tryz.func91 (by kernel_rfl) (by kernel_rfl) (by kernel_rfl) (by kernel_rfl)
  have f8 := @run_callFunc_extern Tryz.prog 138 _ (ReflectliteType.relation "AssignableTo" ReflectliteType.assignableTo) Tryz.func138 (by kernel_rfl) (by kernel_rfl) (by kernel_rfl) (by kernel_rfl)
  have f9 := @run_callFunc_extern Tryz.prog 92 _ (ReflectliteValue.method (ReflectliteValue.valueError "reflectlite.Value.Elem" 0) ReflectliteValue.elem) Tryz.func92 (by kernel_rfl) (by kernel_rfl) (by kernel_rfl) (by kernel_rfl)
  have f10 := @run_callFunc_extern Tryz.prog 93 _ ReflectliteValue.set Tryz.func93 (by kernel_rfl) (by kernel_rfl) (by kernel_rfl) (by kernel_rfl)
  have l1 := asVP
  have l2 := asTP
  have l3 := asMKind
  have l4 := asMElem
  have l5 := asMImplements
  have l6 := asMAssignableTo
  have l7 := asKP
  have l8 := asKB
  have l9 := asEP
  have l10 := asIB
  have l11 := asTB
  have l12 := asAB
  have l13 := asVB
  have hlt : 0 < w.heap.size := by
    rcases Nat.eq_zero_or_pos w.heap.size with h0 | h
    · simp [World.cell?, h0] at hg
    · exact h
  have hol : o < w.heap.size := (Array.getElem?_eq_some_iff.1 hB).1
  have l14 := asIsNil ⟨w.heap.size, 0, none⟩ ⟨o, 0, none⟩ ((w.alloc (.cells #[.pointer (some ⟨o, 0, none⟩)] 80)).alloc (.cells #[.pointer (some ⟨1, 80, none⟩), .pointer (some ⟨w.heap.size, 0, none⟩), .int .u64 150] 153)) (by simp)
  have hg2 : ((w.alloc (.cells #[.pointer (some ⟨o, 0, none⟩)] 80)).alloc (.cells #[.pointer (some ⟨1, 80, none⟩), .pointer (some ⟨w.heap.size, 0, none⟩), .int .u64 150] 153)).cell? ⟨0, 0, none⟩ = some (.iface 214 (.agg #[.pointer (some ⟨1, 74, none⟩)])) := by
    rw [World.cell?_alloc_lt _ _ ⟨0, 0, none⟩ (by simp), World.cell?_alloc_lt _ _ ⟨0, 0, none⟩ hlt]; exact hg
  have l15 := asElem ⟨w.heap.size, 0, none⟩ ⟨o, 0, none⟩ (((w.alloc (.cells #[.pointer (some ⟨o, 0, none⟩)] 80)).alloc (.cells #[.pointer (some ⟨1, 80, none⟩), .pointer (some ⟨w.heap.size, 0, none⟩), .int .u64 150] 153)).alloc (.cells #[.pointer (some ⟨1, 80, none⟩), .pointer (some ⟨w.heap.size, 0, none⟩), .int .u64 150] 153)) (by rw [World.cell?_alloc_lt _ _ ⟨w.heap.size, 0, none⟩ (by simp; omega)]; simp)
  have l16 := asSet o (w.heap.size + 1 + 1 + 1) k a x y ((((w.alloc (.cells #[.pointer (some ⟨o, 0, none⟩)] 80)).alloc (.cells #[.pointer (some ⟨1, 80, none⟩), .pointer (some ⟨w.heap.size, 0, none⟩), .int .u64 150] 153)).alloc (.cells #[.pointer (some ⟨1, 80, none⟩), .pointer (some ⟨w.heap.size, 0, none⟩), .int .u64 150] 153)).alloc (.cells #[.int .i64 k, .int .i64 a] 78)) (by rw [World.cell?_alloc_at _ _ _ _ (by simp)]; rfl) (by rw [World.cell?_alloc_at _ _ _ _ (by simp)]; rfl) (blk_alloc (blk_alloc (blk_alloc (blk_alloc hB))))
  clear hB hg
  go_enter Tryz.func22, Tryz.ntmps22
  go_wp2
  refine wp_loop_rounds 1 ?_
  rw [rounds_succ]
  go_wp2
  go_ret
  exact ⟨rfl, rfl⟩
end Go.Proofs.YtpjbfdpblgjmfaaGreatDoor
