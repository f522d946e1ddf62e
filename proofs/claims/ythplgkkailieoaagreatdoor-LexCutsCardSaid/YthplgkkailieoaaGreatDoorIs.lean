/-
  errors.As and errors.Is, walked at what the statements hand them.
-/
import Derived.Test.YthplgkkailieoaaGreatDoorJoin
import Derived.LaidEql
import Derived.Stop.Asserts
import Derived.RowKitTokens
namespace Go.Proofs.YthplgkkailieoaaGreatDoor
open Go Go.RowKit Go.Extern.Stop Go.Stop Go.Extern

/-- A type's handle. -/
abbrev hdl (t : Nat) : Value := .pointer (some ⟨5, t, none⟩)
theorem as_valueOf (t : Addr) (w : World) : (ReflectliteValue.unpack (.iface 68 (.pointer (some t)))).run Tryz.prog w
    = .ok (.agg #[hdl 68, .pointer (some ⟨w.heap.size, 0, none⟩), .int .u64 150]) (w.alloc (.cells #[.pointer (some t)] 68)) := by kernel_rfl
theorem as_type (a : Addr) (w : World) : (ReflectliteValue.methodAny (ReflectliteValue.valueError "reflectlite.Value.Type" 0) (fun t _ _ _ => ReflectliteType.toType t) #[.agg #[hdl 68, .pointer (some a), .int .u64 150]]).run Tryz.prog w
    = .ok (.iface 120 (.agg #[hdl 68])) w := by kernel_rfl
theorem as_kindP (w : World) : ((ReflectliteType.abiMethod fun t => (fun a : Nat => Value.int IntKind.u8 (a : Int)) <$> Rtype.kind t) #[hdl 68]).run Tryz.prog w = .ok (.int .u8 22) w := by kernel_rfl
theorem as_kindE (w : World) : ((ReflectliteType.abiMethod fun t => (fun a : Nat => Value.int IntKind.u8 (a : Int)) <$> Rtype.kind t) #[hdl 64]).run Tryz.prog w = .ok (.int .u8 22) w := by kernel_rfl
theorem as_parts (a : Addr) (w : World) : (ReflectliteValue.parts (.agg #[hdl 68, .pointer (some a), .int .u64 150])).run Tryz.prog w = .ok (some (68, a, 150)) w := by kernel_rfl
theorem as_elemT (w : World) : (ReflectliteType.method ReflectliteType.elem #[.agg #[hdl 68]]).run Tryz.prog w = .ok (.iface 120 (.agg #[hdl 64])) w := by kernel_rfl
theorem as_implements (w : World) : (ReflectliteType.relation "Implements" ReflectliteType.implements_ #[.agg #[hdl 64], .iface 120 (.agg #[hdl 32])]).run Tryz.prog w = .ok (.bool true) w := by kernel_rfl
theorem as_typeOf (v : Value) (w : World) : (ReflectliteType.typeOf #[.iface 64 v]).run Tryz.prog w = .ok (.iface 120 (.agg #[hdl 64])) w := by kernel_rfl
theorem as_assignable (w : World) : (ReflectliteType.relation "AssignableTo" ReflectliteType.assignableTo #[.agg #[hdl 64], .iface 120 (.agg #[hdl 64])]).run Tryz.prog w = .ok (.bool true) w := by kernel_rfl
theorem as_valueE (e : Addr) (w : World) : (ReflectliteValue.unpack (.iface 64 (.pointer (some e)))).run Tryz.prog w
    = .ok (.agg #[hdl 64, .pointer (some ⟨w.heap.size, 0, none⟩), .int .u64 150]) (w.alloc (.cells #[.pointer (some e)] 64)) := by kernel_rfl
theorem as_elemOf (w : World) : (Rtype.elem? 68).run Tryz.prog w = .ok (some 64) w := by kernel_rfl
theorem as_mk (p : Addr) (w : World) : (ReflectliteValue.mk 64 p ReflectliteValue.flagAddr).run Tryz.prog w = .ok (.agg #[hdl 64, .pointer (some p), .int .u64 406]) w := by kernel_rfl
theorem as_partsA (a : Addr) (w : World) : (ReflectliteValue.parts (.agg #[hdl 64, .pointer (some a), .int .u64 406])).run Tryz.prog w = .ok (some (64, a, 406)) w := by kernel_rfl
theorem as_partsE (a : Addr) (w : World) : (ReflectliteValue.parts (.agg #[hdl 64, .pointer (some a), .int .u64 150])).run Tryz.prog w = .ok (some (64, a, 150)) w := by kernel_rfl
theorem as_direct (w : World) : (Rtype.directlyAssignable 64 64).run Tryz.prog w = .ok true w := by kernel_rfl
theorem as_isNil (a p : Addr) (W : World) (ha : W.cell? a = some (.pointer (some p))) :
    (ReflectliteValue.method (ReflectliteValue.valueError "reflectlite.Value.IsNil" 0) ReflectliteValue.isNil #[.agg #[hdl 68, .pointer (some a), .int .u64 150]]).run Tryz.prog W = .ok (.bool false) W := by
  rw [show ReflectliteValue.method (ReflectliteValue.valueError "reflectlite.Value.IsNil" 0) ReflectliteValue.isNil #[(.agg #[hdl 68, .pointer (some a), .int .u64 150])] = Bind.bind (ReflectliteValue.parts (.agg #[hdl 68, .pointer (some a), .int .u64 150])) _ from rfl]
  simp only [Sem.run_bind, as_parts, Result.andThen]
  simp [ReflectliteValue.isNil, loadVar, isAgg, underlying, Tryz.underlying68, ha, Result.andThen]
theorem as_elemV (a p : Addr) (W : World) (ha : W.cell? a = some (.pointer (some p))) :
    (ReflectliteValue.method (ReflectliteValue.valueError "reflectlite.Value.Elem" 0) ReflectliteValue.elem #[.agg #[hdl 68, .pointer (some a), .int .u64 150]]).run Tryz.prog W
      = .ok (.agg #[hdl 64, .pointer (some p), .int .u64 406]) W := by
  rw [show ReflectliteValue.method (ReflectliteValue.valueError "reflectlite.Value.Elem" 0) ReflectliteValue.elem #[(.agg #[hdl 68, .pointer (some a), .int .u64 150])] = Bind.bind (ReflectliteValue.parts (.agg #[hdl 68, .pointer (some a), .int .u64 150])) _ from rfl]
  simp only [Sem.run_bind, as_parts, Result.andThen]
  simp [ReflectliteValue.elem, loadVar, isAgg, underlying, Tryz.underlying68, ha, Result.andThen, as_elemOf, as_mk]
end Go.Proofs.YthplgkkailieoaaGreatDoor
namespace Go.Proofs.YthplgkkailieoaaGreatDoor
open Go Go.RowKit Go.Extern.Stop Go.Stop Go.Extern

theorem as_set (ta b e : Addr) (old : Value) (W : World) (hb : W.cell? b = some (.pointer (some e))) (ht : W.cell? ta = some old) (hf : W.frozen? ta = false) :
    (ReflectliteValue.set #[.agg #[hdl 64, .pointer (some ta), .int .u64 406], .agg #[hdl 64, .pointer (some b), .int .u64 150]]).run Tryz.prog W
      = .ok (.tuple #[]) (W.setCell ta (.pointer (some e))) := by
  rw [show ReflectliteValue.set #[.agg #[hdl 64, .pointer (some ta), .int .u64 406], .agg #[hdl 64, .pointer (some b), .int .u64 150]] = Bind.bind (ReflectliteValue.parts (.agg #[hdl 64, .pointer (some ta), .int .u64 406])) (fun _r => Bind.bind (ReflectliteValue.parts (.agg #[hdl 64, .pointer (some b), .int .u64 150])) _) from rfl]
  simp only [Sem.run_bind, as_partsA, as_partsE, Result.andThen]
  simp [ReflectliteValue.flagAddr, loadVar, isAgg, underlying, Tryz.underlying64, hb, Result.andThen, as_direct, storeVar, Value.cells, storeCells, Addr.add]
  rw [run_store Tryz.prog W ta _ _ (by rfl)]
  simp [ht, hf]
end Go.Proofs.YthplgkkailieoaaGreatDoor
namespace Go.Proofs.YthplgkkailieoaaGreatDoor
open Go Go.RowKit Go.Extern.Stop Go.Stop Go.Extern

theorem m_kind (h : Value) (w : World) : (Go.method 288 120 (.agg #[h]) "Kind").run Tryz.prog w = .ok (130, h) w := by kernel_rfl
theorem m_elem (h : Value) (w : World) : (Go.method 288 120 (.agg #[h]) "Elem").run Tryz.prog w = .ok (141, .agg #[h]) w := by kernel_rfl
theorem m_implements (h : Value) (w : World) : (Go.method 288 120 (.agg #[h]) "Implements").run Tryz.prog w = .ok (142, .agg #[h]) w := by kernel_rfl
theorem m_assignable (h : Value) (w : World) : (Go.method 288 120 (.agg #[h]) "AssignableTo").run Tryz.prog w = .ok (139, .agg #[h]) w := by kernel_rfl
theorem m_comparable (h : Value) (w : World) : (Go.method 288 120 (.agg #[h]) "Comparable").run Tryz.prog w = .ok (140, .agg #[h]) w := by kernel_rfl

def ErrType (w : World) : Prop := w.cell? ⟨0, 0, none⟩ = some (.iface 120 (.agg #[hdl 32]))
abbrev refBlk (t : Addr) : Obj := .cells #[.pointer (some t)] 68

set_option maxHeartbeats 4000000 in
set_option maxRecDepth 100000 in
theorem as_hit (e : Addr) (rb : Nat) (old : Value) (w : World) (hg : ErrType w) (hr : Boxed w rb 64 old) (hrb : 0 < rb) :
    Calls Tryz.prog 26 #[.iface 64 (.pointer (some e)), .iface 68 (.pointer (some ⟨rb, 0, none⟩))] w fun ev w' => ev = .returned (.bool true) ∧ Boxed w' rb 64 (.pointer (some e)) ∧ Below rb w w' := by
  have h30 := @run_callFunc_extern Tryz.prog 54 _ (fun args => ReflectliteValue.unpack (args.getD 0 (.tuple #[]))) Tryz.func54 (by kernel_rfl) (by kernel_rfl) (by kernel_rfl) (by kernel_rfl)
  have h31 := @run_callFunc_extern Tryz.prog 55 _ (ReflectliteValue.methodAny (ReflectliteValue.valueError "reflectlite.Value.Type" 0) (fun t _ _ _ => ReflectliteType.toType t)) Tryz.func55 (by kernel_rfl) (by kernel_rfl) (by kernel_rfl) (by kernel_rfl)
  have h32 := @run_callFunc_extern Tryz.prog 56 _ (ReflectliteValue.method (ReflectliteValue.valueError "reflectlite.Value.IsNil" 0) ReflectliteValue.isNil) Tryz.func56 (by kernel_rfl) (by kernel_rfl) (by kernel_rfl) (by kernel_rfl)
  have hkd := @run_callFunc_extern Tryz.prog 130 _ (ReflectliteType.abiMethod fun t => do pure (.int .u8 (← Rtype.kind t))) Tryz.func130 (by kernel_rfl) (by kernel_rfl) (by kernel_rfl) (by kernel_rfl)
  have hel := @run_callFunc_extern Tryz.prog 141 _ (ReflectliteType.method ReflectliteType.elem) Tryz.func141 (by kernel_rfl) (by kernel_rfl) (by kernel_rfl) (by kernel_rfl)
  have him := @run_callFunc_extern Tryz.prog 142 _ (ReflectliteType.relation "Implements" ReflectliteType.implements_) Tryz.func142 (by kernel_rfl) (by kernel_rfl) (by kernel_rfl) (by kernel_rfl)
  have hto := @run_callFunc_extern Tryz.prog 60 _ ReflectliteType.typeOf Tryz.func60 (by kernel_rfl) (by kernel_rfl) (by kernel_rfl) (by kernel_rfl)
  have hat := @run_callFunc_extern Tryz.prog 139 _ (ReflectliteType.relation "AssignableTo" ReflectliteType.assignableTo) Tryz.func139 (by kernel_rfl) (by kernel_rfl) (by kernel_rfl) (by kernel_rfl)
  have hev := @run_callFunc_extern Tryz.prog 78 _ (ReflectliteValue.method (ReflectliteValue.valueError "reflectlite.Value.Elem" 0) ReflectliteValue.elem) Tryz.func78 (by kernel_rfl) (by kernel_rfl) (by kernel_rfl) (by kernel_rfl)
  have hst := @run_callFunc_extern Tryz.prog 79 _ ReflectliteValue.set Tryz.func79 (by kernel_rfl) (by kernel_rfl) (by kernel_rfl) (by kernel_rfl)
  have f1 := as_valueOf
  have f2 := as_type
  have f3 := m_kind
  have f4 := m_elem
  have f5 := m_implements
  have f6 := as_kindP
  have f7 := as_kindE
  have f8 := as_elemT
  have f9 := as_implements
  have fa := as_typeOf
  have fb := m_assignable
  have fc := as_assignable
  have fd := as_valueE
  have hrl := hr.lt
  have hlt : 0 < w.heap.size := by omega
  have n8 := as_isNil ⟨w.heap.size, 0, none⟩ ⟨rb, 0, none⟩ ((w.alloc (refBlk ⟨rb, 0, none⟩)).alloc (.cells #[hdl 68, .pointer (some ⟨w.heap.size, 0, none⟩), .int .u64 150] 98)) (by simp)
  have hg2 : ((w.alloc (refBlk ⟨rb, 0, none⟩)).alloc (.cells #[hdl 68, .pointer (some ⟨w.heap.size, 0, none⟩), .int .u64 150] 98)).cell? ⟨0, 0, none⟩ = some (.iface 120 (.agg #[hdl 32])) := by
    rw [World.cell?_alloc_lt _ _ ⟨0, 0, none⟩ (by simp), World.cell?_alloc_lt _ _ ⟨0, 0, none⟩ hlt]; exact hg
  have el := as_elemV ⟨w.heap.size, 0, none⟩ ⟨rb, 0, none⟩ (((w.alloc (refBlk ⟨rb, 0, none⟩)).alloc (.cells #[hdl 68, .pointer (some ⟨w.heap.size, 0, none⟩), .int .u64 150] 98)).alloc (.cells #[hdl 68, .pointer (some ⟨w.heap.size, 0, none⟩), .int .u64 150] 98)) (by rw [World.cell?_alloc_lt _ _ ⟨w.heap.size, 0, none⟩ (by simp; omega), World.cell?_alloc_lt _ _ ⟨w.heap.size, 0, none⟩ (by simp), World.cell?_alloc_at _ _ _ _ (by simp)]; rfl)
  have b4 : Boxed ((((w.alloc (refBlk ⟨rb, 0, none⟩)).alloc (.cells #[hdl 68, .pointer (some ⟨w.heap.size, 0, none⟩), .int .u64 150] 98)).alloc (.cells #[hdl 68, .pointer (some ⟨w.heap.size, 0, none⟩), .int .u64 150] 98)).alloc (.cells #[.pointer (some e)] 64)) rb 64 old := (((hr.alloc _).alloc _).alloc _).alloc _
  have st := as_set ⟨rb, 0, none⟩ ⟨w.heap.size + 1 + 1 + 1, 0, none⟩ e old ((((w.alloc (refBlk ⟨rb, 0, none⟩)).alloc (.cells #[hdl 68, .pointer (some ⟨w.heap.size, 0, none⟩), .int .u64 150] 98)).alloc (.cells #[hdl 68, .pointer (some ⟨w.heap.size, 0, none⟩), .int .u64 150] 98)).alloc (.cells #[.pointer (some e)] 64)) (by rw [World.cell?_alloc_at _ _ _ _ (by simp)]; rfl) b4.cell b4.frozen
  go_enter Tryz.func26, Tryz.ntmps26
  go_wp2
  refine wp_loop_rounds 1 ?_
  rw [rounds_succ]
  go_wp2
  go_ret
  exact ⟨rfl, b4.set _, (((((Below.refl rb w).alloc (by omega) _).alloc (by simp; omega) _).alloc (by simp; omega) _).alloc (by simp; omega) _).setCell (p := ⟨rb, 0, none⟩) (Nat.le_refl _) _⟩
end Go.Proofs.YthplgkkailieoaaGreatDoor
namespace Go.Proofs.YthplgkkailieoaaGreatDoor
open Go Go.RowKit Go.Extern.Stop Go.Stop Go.Extern

/-- '==' of two interface values of one integer type (the kit's note gives the way). -/
theorem equalIn_int (d : Nat) (w : World) (y : Int) : (Op.equalIn (d + 2) 32 (.iface 54 (.int .i64 y)) (.iface 54 (.int .i64 y))).run Tryz.prog w = .ok true w := by
  obtain ⟨i, hi, hc⟩ := Option.map_eq_some_iff.1 (show (Tryz.prog.info? 54).map (·.comparable) = some true by kernel_rfl)
  simp [Op.equalIn, run_underlying Tryz.underlying32, run_underlying Tryz.underlying54, typeInfo, hi, hc]
theorem eql_int (w : World) (y : Int) : (binOp .eql 32 (.iface 54 (.int .i64 y)) (.iface 54 (.int .i64 y))).run Tryz.prog w = .ok (.bool true) w := by
  simp only [binOp]
  simp [Op.equal, Op.maxDepth, equalIn_int 9998 w y]
theorem eql_types (w : World) (p : Value) (y : Int) : (binOp .eql 32 (.iface 64 p) (.iface 54 (.int .i64 y))).run Tryz.prog w = .ok (.bool false) w :=
  run_eql_iface_types (P := Tryz.prog) 64 54 p (.int .i64 y) Tryz.underlying32 (by decide) w
theorem is_typeOf (v : Value) (w : World) : (ReflectliteType.typeOf #[.iface 54 v]).run Tryz.prog w = .ok (.iface 120 (.agg #[hdl 54])) w := by kernel_rfl
theorem is_comparable (w : World) : ((ReflectliteType.method fun t => do Rtype.noPackHeld "Comparable" t; (fun a => Value.bool a.comparable) <$> typeInfo t) #[.agg #[hdl 54]]).run Tryz.prog w = .ok (.bool true) w := by kernel_rfl
theorem is_noIs (v : Value) (x : TypeId) (w : World) : (Instr.typeAssert (.iface 64 v) x 132 true).run Tryz.prog w = .ok (.tuple #[.nilIface, .bool false]) w := run_typeAssert_lacksB Tryz.underlying132 (by kernel_rfl) (by kernel_rfl) v x w
theorem is_unwrap (v : Value) (x : TypeId) (w : World) : (Instr.typeAssert (.iface 64 v) x 127 true).run Tryz.prog w = .ok (.tuple #[.iface 64 v, .bool true]) w := run_typeAssert_hasB Tryz.underlying127 (by kernel_rfl) v x w
theorem m_unwrap (a : Addr) (w : World) : (Go.method 288 64 (.pointer (some a)) "Unwrap").run Tryz.prog w = .ok (133, .pointer (some a)) w := by kernel_rfl

set_option maxHeartbeats 4000000 in
set_option maxRecDepth 100000 in
theorem is_hit (b : Nat) (y : Int) (w : World) (h1 : w.cell? ⟨b, 1, none⟩ = some (.int .i64 y)) :
    Calls Tryz.prog 29 #[.iface 64 (.pointer (some ⟨b, 0, none⟩)), .iface 54 (.int .i64 y)] w fun ev w' => ev = .returned (.bool true) ∧ w = w' := by
  have hto := @run_callFunc_extern Tryz.prog 60 _ ReflectliteType.typeOf Tryz.func60 (by kernel_rfl) (by kernel_rfl) (by kernel_rfl) (by kernel_rfl)
  have hcm := @run_callFunc_extern Tryz.prog 140 _ (ReflectliteType.method fun t => do Rtype.noPackHeld "Comparable" t; pure (.bool (← typeInfo t).comparable)) Tryz.func140 (by kernel_rfl) (by kernel_rfl) (by kernel_rfl) (by kernel_rfl)
  have f1 := is_typeOf
  have f2 := is_comparable
  have f3 := m_comparable
  have f4 := eql_types
  have f5 := eql_int
  have f6 := is_noIs
  have f7 := is_unwrap
  have f8 := m_unwrap
  go_enter Tryz.func29, Tryz.ntmps29
  go_wp2
  refine wp_loop_rounds 2 ?_
  rw [rounds_succ]
  go_wp2
  rw [rounds_succ]
  go_wp2
  go_ret
  exact ⟨rfl, rfl⟩
end Go.Proofs.YthplgkkailieoaaGreatDoor
