/-
  errors.As of a refusal with a place into an interface that asks for its place, walked; lex.Refusal stands for the refusal's type. Own work.
-/
import Derived.Test.YtcofioeikpiabaaGreatDoorRAsE
namespace Go.Proofs.YtcofioeikpiabaaGreatDoor.RE.P
open Go Go.RowKit Go.Extern.Stop Go.Stop Go.Extern

theorem as_valueOf (t : Addr) (w : World) : (ReflectliteValue.unpack (.iface 66 (.pointer (some t)))).run Tryz.prog w
    = .ok (.agg #[hdl 66, .pointer (some ⟨w.heap.size, 0, none⟩), .int .u64 150]) (w.alloc (.cells #[.pointer (some t)] 66)) := by kernel_rfl
theorem as_type (a : Addr) (w : World) : (ReflectliteValue.methodAny (ReflectliteValue.valueError "reflectlite.Value.Type" 0) (fun t _ _ _ => ReflectliteType.toType t) #[.agg #[hdl 66, .pointer (some a), .int .u64 150]]).run Tryz.prog w
    = .ok (.iface 195 (.agg #[hdl 66])) w := by kernel_rfl
theorem as_kindP (w : World) : ((ReflectliteType.abiMethod fun t => (fun a : Nat => Value.int IntKind.u8 (a : Int)) <$> Rtype.kind t) #[hdl 66]).run Tryz.prog w = .ok (.int .u8 22) w := by kernel_rfl
theorem as_kindE (w : World) : ((ReflectliteType.abiMethod fun t => (fun a : Nat => Value.int IntKind.u8 (a : Int)) <$> Rtype.kind t) #[hdl 65]).run Tryz.prog w = .ok (.int .u8 20) w := by kernel_rfl
theorem as_parts (a : Addr) (w : World) : (ReflectliteValue.parts (.agg #[hdl 66, .pointer (some a), .int .u64 150])).run Tryz.prog w = .ok (some (66, a, 150)) w := by kernel_rfl
theorem as_elemT (w : World) : (ReflectliteType.method ReflectliteType.elem #[.agg #[hdl 66]]).run Tryz.prog w = .ok (.iface 195 (.agg #[hdl 65])) w := by kernel_rfl
theorem as_typeOf (v : Value) (w : World) : (ReflectliteType.typeOf #[.iface 359 v]).run Tryz.prog w = .ok (.iface 195 (.agg #[hdl 359])) w := by kernel_rfl
theorem as_assignable (w : World) : (ReflectliteType.relation "AssignableTo" ReflectliteType.assignableTo #[.agg #[hdl 359], .iface 195 (.agg #[hdl 65])]).run Tryz.prog w = .ok (.bool true) w := by kernel_rfl
theorem as_valueE (e : Addr) (w : World) : (ReflectliteValue.unpack (.iface 359 (.pointer (some e)))).run Tryz.prog w
    = .ok (.agg #[hdl 359, .pointer (some ⟨w.heap.size, 0, none⟩), .int .u64 150]) (w.alloc (.cells #[.pointer (some e)] 359)) := by kernel_rfl
theorem as_elemOf (w : World) : (Rtype.elem? 66).run Tryz.prog w = .ok (some 65) w := by kernel_rfl
theorem as_mk (p : Addr) (w : World) : (ReflectliteValue.mk 65 p ReflectliteValue.flagAddr).run Tryz.prog w = .ok (.agg #[hdl 65, .pointer (some p), .int .u64 404]) w := by kernel_rfl
theorem as_partsA (a : Addr) (w : World) : (ReflectliteValue.parts (.agg #[hdl 65, .pointer (some a), .int .u64 404])).run Tryz.prog w = .ok (some (65, a, 404)) w := by kernel_rfl
theorem as_partsE (a : Addr) (w : World) : (ReflectliteValue.parts (.agg #[hdl 359, .pointer (some a), .int .u64 150])).run Tryz.prog w = .ok (some (359, a, 150)) w := by kernel_rfl
theorem as_direct (w : World) : (Rtype.directlyAssignable 65 359).run Tryz.prog w = .ok false w := by kernel_rfl
theorem as_impl (w : World) : (Rtype.implements 65 359).run Tryz.prog w = .ok true w := by kernel_rfl
theorem as_kindS (w : World) : (Rtype.kind 359).run Tryz.prog w = .ok 22 w := by kernel_rfl
theorem as_isNil (a p : Addr) (W : World) (ha : W.cell? a = some (.pointer (some p))) :
    (ReflectliteValue.method (ReflectliteValue.valueError "reflectlite.Value.IsNil" 0) ReflectliteValue.isNil #[.agg #[hdl 66, .pointer (some a), .int .u64 150]]).run Tryz.prog W = .ok (.bool false) W := by
  rw [show ReflectliteValue.method (ReflectliteValue.valueError "reflectlite.Value.IsNil" 0) ReflectliteValue.isNil #[(.agg #[hdl 66, .pointer (some a), .int .u64 150])] = Bind.bind (ReflectliteValue.parts (.agg #[hdl 66, .pointer (some a), .int .u64 150])) _ from rfl]
  simp only [Sem.run_bind, as_parts, Result.andThen]
  simp [ReflectliteValue.isNil, loadVar, isAgg, underlying, Tryz.underlying66, ha, Result.andThen]
theorem as_elemV (a p : Addr) (W : World) (ha : W.cell? a = some (.pointer (some p))) :
    (ReflectliteValue.method (ReflectliteValue.valueError "reflectlite.Value.Elem" 0) ReflectliteValue.elem #[.agg #[hdl 66, .pointer (some a), .int .u64 150]]).run Tryz.prog W
      = .ok (.agg #[hdl 65, .pointer (some p), .int .u64 404]) W := by
  rw [show ReflectliteValue.method (ReflectliteValue.valueError "reflectlite.Value.Elem" 0) ReflectliteValue.elem #[(.agg #[hdl 66, .pointer (some a), .int .u64 150])] = Bind.bind (ReflectliteValue.parts (.agg #[hdl 66, .pointer (some a), .int .u64 150])) _ from rfl]
  simp only [Sem.run_bind, as_parts, Result.andThen]
  simp [ReflectliteValue.elem, loadVar, isAgg, underlying, Tryz.underlying66, ha, Result.andThen, as_elemOf, as_mk]
end Go.Proofs.YtcofioeikpiabaaGreatDoor.RE.P
namespace Go.Proofs.YtcofioeikpiabaaGreatDoor.RE.P
open Go Go.RowKit Go.Extern.Stop Go.Stop Go.Extern

theorem as_set (ta b e : Addr) (old : Value) (W : World) (hb : W.cell? b = some (.pointer (some e))) (ht : W.cell? ta = some old) (hf : W.frozen? ta = false) :
    (ReflectliteValue.set #[.agg #[hdl 65, .pointer (some ta), .int .u64 404], .agg #[hdl 359, .pointer (some b), .int .u64 150]]).run Tryz.prog W
      = .ok (.tuple #[]) (W.setCell ta (.iface 359 (.pointer (some e)))) := by
  rw [show ReflectliteValue.set #[.agg #[hdl 65, .pointer (some ta), .int .u64 404], .agg #[hdl 359, .pointer (some b), .int .u64 150]] = Bind.bind (ReflectliteValue.parts (.agg #[hdl 65, .pointer (some ta), .int .u64 404])) (fun _r => Bind.bind (ReflectliteValue.parts (.agg #[hdl 359, .pointer (some b), .int .u64 150])) _) from rfl]
  simp only [Sem.run_bind, as_partsA, as_partsE, Result.andThen]
  simp [ReflectliteValue.flagAddr, loadVar, isAgg, underlying, Tryz.underlying359, hb, Result.andThen, as_direct, as_impl, as_kindS, storeVar, Value.cells, storeCells, Addr.add]
  rw [run_store Tryz.prog W ta _ _ (by rfl)]
  simp [ht, hf]
end Go.Proofs.YtcofioeikpiabaaGreatDoor.RE.P
namespace Go.Proofs.YtcofioeikpiabaaGreatDoor.RE.P
open Go Go.RowKit Go.Extern.Stop Go.Stop Go.Extern

abbrev refBlk (t : Addr) : Obj := .cells #[.pointer (some t)] 66

set_option maxHeartbeats 4000000 in
set_option maxRecDepth 100000 in
theorem as_hit (e : Addr) (rb : Nat) (old : Value) (w : World) (hg : ErrType w) (hr : Boxed w rb 65 old) :
    Calls Tryz.prog 19 #[.iface 359 (.pointer (some e)), .iface 66 (.pointer (some ⟨rb, 0, none⟩))] w fun ev w' => ev = .returned (.bool true) ∧ ∃ w1, Below w.heap.size w w1 ∧ w' = w1.setCell ⟨rb, 0, none⟩ (.iface 359 (.pointer (some e))) := by
  have h30 := @run_callFunc_extern Tryz.prog 50 _ (fun args => ReflectliteValue.unpack (args.getD 0 (.tuple #[]))) Tryz.func50 (by kernel_rfl) (by kernel_rfl) (by kernel_rfl) (by kernel_rfl)
  have h31 := @run_callFunc_extern Tryz.prog 51 _ (ReflectliteValue.methodAny (ReflectliteValue.valueError "reflectlite.Value.Type" 0) (fun t _ _ _ => ReflectliteType.toType t)) Tryz.func51 (by kernel_rfl) (by kernel_rfl) (by kernel_rfl) (by kernel_rfl)
  have h32 := @run_callFunc_extern Tryz.prog 52 _ (ReflectliteValue.method (ReflectliteValue.valueError "reflectlite.Value.IsNil" 0) ReflectliteValue.isNil) Tryz.func52 (by kernel_rfl) (by kernel_rfl) (by kernel_rfl) (by kernel_rfl)
  have hkd := @run_callFunc_extern Tryz.prog 688 _ (ReflectliteType.abiMethod fun t => do pure (.int .u8 (← Rtype.kind t))) Tryz.func688 (by kernel_rfl) (by kernel_rfl) (by kernel_rfl) (by kernel_rfl)
  have hel := @run_callFunc_extern Tryz.prog 701 _ (ReflectliteType.method ReflectliteType.elem) Tryz.func701 (by kernel_rfl) (by kernel_rfl) (by kernel_rfl) (by kernel_rfl)
  have him := @run_callFunc_extern Tryz.prog 702 _ (ReflectliteType.relation "Implements" ReflectliteType.implements_) Tryz.func702 (by kernel_rfl) (by kernel_rfl) (by kernel_rfl) (by kernel_rfl)
  have hto := @run_callFunc_extern Tryz.prog 105 _ ReflectliteType.typeOf Tryz.func105 (by kernel_rfl) (by kernel_rfl) (by kernel_rfl) (by kernel_rfl)
  have hat := @run_callFunc_extern Tryz.prog 699 _ (ReflectliteType.relation "AssignableTo" ReflectliteType.assignableTo) Tryz.func699 (by kernel_rfl) (by kernel_rfl) (by kernel_rfl) (by kernel_rfl)
  have hev := @run_callFunc_extern Tryz.prog 106 _ (ReflectliteValue.method (ReflectliteValue.valueError "reflectlite.Value.Elem" 0) ReflectliteValue.elem) Tryz.func106 (by kernel_rfl) (by kernel_rfl) (by kernel_rfl) (by kernel_rfl)
  have hst := @run_callFunc_extern Tryz.prog 107 _ ReflectliteValue.set Tryz.func107 (by kernel_rfl) (by kernel_rfl) (by kernel_rfl) (by kernel_rfl)
  have f1 := as_valueOf
  have f2 := as_type
  have f3 := m_kind
  have f4 := m_elem
  have f6 := as_kindP
  have f7 := as_kindE
  have f8 := as_elemT
  have fa := as_typeOf
  have fb := m_assignable
  have fc := as_assignable
  have fd := as_valueE
  have hrl := hr.lt
  have hlt : 0 < w.heap.size := cellLt hg
  have n8 := as_isNil ⟨w.heap.size, 0, none⟩ ⟨rb, 0, none⟩ ((w.alloc (refBlk ⟨rb, 0, none⟩)).alloc (.cells #[hdl 66, .pointer (some ⟨w.heap.size, 0, none⟩), .int .u64 150] 92)) (by simp)
  have hg2 : ((w.alloc (refBlk ⟨rb, 0, none⟩)).alloc (.cells #[hdl 66, .pointer (some ⟨w.heap.size, 0, none⟩), .int .u64 150] 92)).cell? ⟨0, 0, none⟩ = some (.iface 195 (.agg #[hdl 44])) := by
    rw [World.cell?_alloc_lt _ _ ⟨0, 0, none⟩ (by simp), World.cell?_alloc_lt _ _ ⟨0, 0, none⟩ hlt]; exact hg
  have el := as_elemV ⟨w.heap.size, 0, none⟩ ⟨rb, 0, none⟩ (((w.alloc (refBlk ⟨rb, 0, none⟩)).alloc (.cells #[hdl 66, .pointer (some ⟨w.heap.size, 0, none⟩), .int .u64 150] 92)).alloc (.cells #[hdl 66, .pointer (some ⟨w.heap.size, 0, none⟩), .int .u64 150] 92)) (by rw [World.cell?_alloc_lt _ _ ⟨w.heap.size, 0, none⟩ (by simp; omega), World.cell?_alloc_lt _ _ ⟨w.heap.size, 0, none⟩ (by simp), World.cell?_alloc_at _ _ _ _ (by simp)]; rfl)
  have b4 : Boxed ((((w.alloc (refBlk ⟨rb, 0, none⟩)).alloc (.cells #[hdl 66, .pointer (some ⟨w.heap.size, 0, none⟩), .int .u64 150] 92)).alloc (.cells #[hdl 66, .pointer (some ⟨w.heap.size, 0, none⟩), .int .u64 150] 92)).alloc (.cells #[.pointer (some e)] 359)) rb 65 old := (((hr.alloc _).alloc _).alloc _).alloc _
  have st := as_set ⟨rb, 0, none⟩ ⟨w.heap.size + 1 + 1 + 1, 0, none⟩ e old ((((w.alloc (refBlk ⟨rb, 0, none⟩)).alloc (.cells #[hdl 66, .pointer (some ⟨w.heap.size, 0, none⟩), .int .u64 150] 92)).alloc (.cells #[hdl 66, .pointer (some ⟨w.heap.size, 0, none⟩), .int .u64 150] 92)).alloc (.cells #[.pointer (some e)] 359)) (by rw [World.cell?_alloc_at _ _ _ _ (by simp)]; rfl) b4.cell b4.frozen
  go_enter Tryz.func19, Tryz.ntmps19
  go_wp2
  refine wp_loop_rounds 1 ?_
  rw [rounds_succ]
  go_wp2
  go_ret
  exact ⟨rfl, _, (((((Below.refl w.heap.size w).alloc (by omega) _).alloc (by simp) _).alloc (by simp; omega) _).alloc (by simp; omega) _), rfl⟩
end Go.Proofs.YtcofioeikpiabaaGreatDoor.RE.P
