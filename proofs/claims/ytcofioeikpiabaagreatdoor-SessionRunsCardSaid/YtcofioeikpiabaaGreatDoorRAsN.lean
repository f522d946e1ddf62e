/-
  errors.As of an api.Errno into an interface that asks for a place: no. Own work.
-/
import Derived.Test.YtcofioeikpiabaaGreatDoorRAsP
import Derived.Test.YtcofioeikpiabaaGreatDoorAmRf
namespace Go.Proofs.YtcofioeikpiabaaGreatDoor.RE.P
open Go Go.RowKit Go.Extern.Stop Go.Stop Go.Extern

theorem as_typeOfN (v : Value) (w : World) : (ReflectliteType.typeOf #[.iface 27 v]).run Tryz.prog w = .ok (.iface 195 (.agg #[hdl 27])) w := by kernel_rfl
theorem as_notN (w : World) : (ReflectliteType.relation "AssignableTo" ReflectliteType.assignableTo #[.agg #[hdl 27], .iface 195 (.agg #[hdl 65])]).run Tryz.prog w = .ok (.bool false) w := by
  have hno : (Rtype.implements 65 27).run Tryz.prog w = .ok false w := Am.implements_no (fun s => by kernel_rfl) (fun s => by kernel_rfl) (want := #[("Error", 48), ("Where", 67)]) (by kernel_rfl) (by kernel_rfl) (by kernel_rfl)
  have hda : (Rtype.directlyAssignable 65 27).run Tryz.prog w = .ok false w := by kernel_rfl
  have hp1 : (Rtype.noPackMethods "AssignableTo" 27).run Tryz.prog w = .ok () w := by kernel_rfl
  have hp2 : (Rtype.noPackMethods "AssignableTo" 65).run Tryz.prog w = .ok () w := by kernel_rfl
  have hr1 : (ReflectliteType.ofRtype (.agg #[hdl 65])).run Tryz.prog w = .ok 65 w := by kernel_rfl
  have hr2 : (ReflectliteType.ofRtype (.agg #[hdl 27])).run Tryz.prog w = .ok 27 w := by kernel_rfl
  have hat : (ReflectliteType.assignableTo 65 27).run Tryz.prog w = .ok false w := by
    unfold ReflectliteType.assignableTo
    simp [Sem.run_bind, hp1, hp2, hda, hno, Result.andThen]
  rw [show ReflectliteType.relation "AssignableTo" ReflectliteType.assignableTo #[.agg #[hdl 27], .iface 195 (.agg #[hdl 65])] = Bind.bind (ReflectliteType.ofRtype (.agg #[hdl 65])) (fun a => Bind.bind (ReflectliteType.ofRtype (.agg #[hdl 27])) fun b => Bind.bind (ReflectliteType.assignableTo a b) fun c => pure (.bool c)) from rfl]
  simp only [Sem.run_bind, hr1, hr2, hat, Result.andThen]
  rfl
theorem as_noAsN (v : Value) (x : TypeId) (w : World) : (Instr.typeAssert (.iface 27 v) x 200 true).run Tryz.prog w = .ok (.tuple #[.nilIface, .bool false]) w := run_typeAssert_lacksB Tryz.underlying200 (by kernel_rfl) (by kernel_rfl) v x w
theorem as_noUnwrap (v : Value) (x : TypeId) (w : World) : (Instr.typeAssert (.iface 27 v) x 203 true).run Tryz.prog w = .ok (.tuple #[.nilIface, .bool false]) w := run_typeAssert_lacksB Tryz.underlying203 (by kernel_rfl) (by kernel_rfl) v x w
theorem as_noUnwraps (v : Value) (x : TypeId) (w : World) : (Instr.typeAssert (.iface 27 v) x 205 true).run Tryz.prog w = .ok (.tuple #[.nilIface, .bool false]) w := run_typeAssert_lacksB Tryz.underlying205 (by kernel_rfl) (by kernel_rfl) v x w
set_option maxHeartbeats 4000000 in
set_option maxRecDepth 100000 in
theorem as_none (e : Int) (rb : Nat) (w : World) :
    Calls Tryz.prog 19 #[.iface 27 (.int .i64 e), .iface 66 (.pointer (some ⟨rb, 0, none⟩))] w fun ev w' => ev = .returned (.bool false) ∧ Below w.heap.size w w' := by
  have h30 := @run_callFunc_extern Tryz.prog 50 _ (fun args => ReflectliteValue.unpack (args.getD 0 (.tuple #[]))) Tryz.func50 (by kernel_rfl) (by kernel_rfl) (by kernel_rfl) (by kernel_rfl)
  have h31 := @run_callFunc_extern Tryz.prog 51 _ (ReflectliteValue.methodAny (ReflectliteValue.valueError "reflectlite.Value.Type" 0) (fun t _ _ _ => ReflectliteType.toType t)) Tryz.func51 (by kernel_rfl) (by kernel_rfl) (by kernel_rfl) (by kernel_rfl)
  have h32 := @run_callFunc_extern Tryz.prog 52 _ (ReflectliteValue.method (ReflectliteValue.valueError "reflectlite.Value.IsNil" 0) ReflectliteValue.isNil) Tryz.func52 (by kernel_rfl) (by kernel_rfl) (by kernel_rfl) (by kernel_rfl)
  have hkd := @run_callFunc_extern Tryz.prog 688 _ (ReflectliteType.abiMethod fun t => do pure (.int .u8 (← Rtype.kind t))) Tryz.func688 (by kernel_rfl) (by kernel_rfl) (by kernel_rfl) (by kernel_rfl)
  have hel := @run_callFunc_extern Tryz.prog 701 _ (ReflectliteType.method ReflectliteType.elem) Tryz.func701 (by kernel_rfl) (by kernel_rfl) (by kernel_rfl) (by kernel_rfl)
  have him := @run_callFunc_extern Tryz.prog 702 _ (ReflectliteType.relation "Implements" ReflectliteType.implements_) Tryz.func702 (by kernel_rfl) (by kernel_rfl) (by kernel_rfl) (by kernel_rfl)
  have hto := @run_callFunc_extern Tryz.prog 105 _ ReflectliteType.typeOf Tryz.func105 (by kernel_rfl) (by kernel_rfl) (by kernel_rfl) (by kernel_rfl)
  have hat := @run_callFunc_extern Tryz.prog 699 _ (ReflectliteType.relation "AssignableTo" ReflectliteType.assignableTo) Tryz.func699 (by kernel_rfl) (by kernel_rfl) (by kernel_rfl) (by kernel_rfl)
  have hev := @run_callFunc_extern Tryz.prog 106 _ (ReflectliteValue.method (ReflectliteValue.valueError "reflectlite.Value.Elem" 0) ReflectliteValue.elem) Tryz.func106 (by kernel_rfl) (by kernel_rfl) (by kernel_rfl) (by kernel_rfl)
  have hst := @run_callFunc_extern Tryz.prog 107 _ ReflectliteValue.set Tryz.func107 (by kernel_rfl) (by kernel_rfl) (by kernel_rfl) (by kernel_rfl)
  have f1 := as_valueOf
  have f2 := as_type
  have f3 := m_kind
  have f4 := m_elem
  have f6 := as_kindP
  have f7 := as_kindE
  have f8 := as_elemT
  have fa := as_typeOfN
  have fb := m_assignable
  have fc := as_notN
  have g3 := as_noAsN
  have g4 := as_noUnwrap
  have g5 := as_noUnwraps
  have n8 := as_isNil ⟨w.heap.size, 0, none⟩ ⟨rb, 0, none⟩ ((w.alloc (refBlk ⟨rb, 0, none⟩)).alloc (.cells #[hdl 66, .pointer (some ⟨w.heap.size, 0, none⟩), .int .u64 150] 92)) (by simp)
  go_enter Tryz.func19, Tryz.ntmps19
  go_wp2
  refine wp_loop_rounds 1 ?_
  rw [rounds_succ]
  go_wp2
  go_ret
  exact ⟨rfl, ((((Below.refl w.heap.size w).alloc (by omega) _).alloc (by simp) _).alloc (by simp; omega) _)⟩
end Go.Proofs.YtcofioeikpiabaaGreatDoor.RE.P
