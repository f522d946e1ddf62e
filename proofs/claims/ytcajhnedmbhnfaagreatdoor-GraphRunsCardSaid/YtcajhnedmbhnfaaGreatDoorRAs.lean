/-
  errors.As, walked at what the statements hand it, as a function that the evaluator takes as told (AmAs); graph.Refusal stands for the error's type: seatrun.sh puts another in its place (REFUSAL). Own work.
-/
import Derived.Test.YtcajhnedmbhnfaaGreatDoorProg
import Derived.Test.YtcajhnedmbhnfaaGreatDoorAmAs
import Derived.WalkKit
import Derived.WalkLawsBesides
import Derived.Outline
import Derived.Handy
import Derived.Deep.DeepFit
import Derived.RangeFuncNested
import Derived.LaidEql
import Derived.Stop.Asserts
import Derived.RowKitTokens
namespace Go.Proofs.YtcajhnedmbhnfaaGreatDoor
open Go Go.RowKit Go.Extern.Stop Go.Stop Go.Extern Am

theorem cellLt {w : World} {b o : Nat} {v : Value} (h : w.cell? ⟨b, o, none⟩ = some v) : b < w.heap.size := by
  rcases Nat.lt_or_ge b w.heap.size with hl | hl
  · exact hl
  · simp [World.cell?, Array.getElem?_eq_none hl] at h
/-- A type's handle. -/
abbrev hdl (t : Nat) : Value := .pointer (some ⟨5, t, none⟩)
theorem as_valueOf (t : Addr) (w : World) : (ReflectliteValue.unpack (.iface 87 (.pointer (some t)))).run Tryz.prog w
    = .ok (.agg #[hdl 87, .pointer (some ⟨w.heap.size, 0, none⟩), .int .u64 150]) (w.alloc (.cells #[.pointer (some t)] 87)) := by kernel_rfl
theorem as_type (a : Addr) (w : World) : (ReflectliteValue.methodAny (ReflectliteValue.valueError "reflectlite.Value.Type" 0) (fun t _ _ _ => ReflectliteType.toType t) #[.agg #[hdl 87, .pointer (some a), .int .u64 150]]).run Tryz.prog w
    = .ok (.iface 143 (.agg #[hdl 87])) w := by kernel_rfl
theorem as_kindP (w : World) : ((ReflectliteType.abiMethod fun t => (fun a : Nat => Value.int IntKind.u8 (a : Int)) <$> Rtype.kind t) #[hdl 87]).run Tryz.prog w = .ok (.int .u8 22) w := by kernel_rfl
theorem as_kindE (w : World) : ((ReflectliteType.abiMethod fun t => (fun a : Nat => Value.int IntKind.u8 (a : Int)) <$> Rtype.kind t) #[hdl 60]).run Tryz.prog w = .ok (.int .u8 22) w := by kernel_rfl
theorem as_parts (a : Addr) (w : World) : (ReflectliteValue.parts (.agg #[hdl 87, .pointer (some a), .int .u64 150])).run Tryz.prog w = .ok (some (87, a, 150)) w := by kernel_rfl
theorem as_elemT (w : World) : (ReflectliteType.method ReflectliteType.elem #[.agg #[hdl 87]]).run Tryz.prog w = .ok (.iface 143 (.agg #[hdl 60])) w := by kernel_rfl
theorem as_implements (w : World) : (ReflectliteType.relation "Implements" ReflectliteType.implements_ #[.agg #[hdl 60], .iface 143 (.agg #[hdl 32])]).run Tryz.prog w = .ok (.bool true) w := by kernel_rfl
theorem as_typeOf (v : Value) (w : World) : (ReflectliteType.typeOf #[.iface 60 v]).run Tryz.prog w = .ok (.iface 143 (.agg #[hdl 60])) w := by kernel_rfl
theorem as_assignable (w : World) : (ReflectliteType.relation "AssignableTo" ReflectliteType.assignableTo #[.agg #[hdl 60], .iface 143 (.agg #[hdl 60])]).run Tryz.prog w = .ok (.bool true) w := by kernel_rfl
theorem as_valueE (e : Addr) (w : World) : (ReflectliteValue.unpack (.iface 60 (.pointer (some e)))).run Tryz.prog w
    = .ok (.agg #[hdl 60, .pointer (some ⟨w.heap.size, 0, none⟩), .int .u64 150]) (w.alloc (.cells #[.pointer (some e)] 60)) := by kernel_rfl
theorem as_elemOf (w : World) : (Rtype.elem? 87).run Tryz.prog w = .ok (some 60) w := by kernel_rfl
theorem as_mk (p : Addr) (w : World) : (ReflectliteValue.mk 60 p ReflectliteValue.flagAddr).run Tryz.prog w = .ok (.agg #[hdl 60, .pointer (some p), .int .u64 406]) w := by kernel_rfl
theorem as_partsA (a : Addr) (w : World) : (ReflectliteValue.parts (.agg #[hdl 60, .pointer (some a), .int .u64 406])).run Tryz.prog w = .ok (some (60, a, 406)) w := by kernel_rfl
theorem as_partsE (a : Addr) (w : World) : (ReflectliteValue.parts (.agg #[hdl 60, .pointer (some a), .int .u64 150])).run Tryz.prog w = .ok (some (60, a, 150)) w := by kernel_rfl
theorem as_direct (w : World) : (Rtype.directlyAssignable 60 60).run Tryz.prog w = .ok true w := by kernel_rfl
theorem as_isNil (a p : Addr) (W : World) (ha : W.cell? a = some (.pointer (some p))) :
    (ReflectliteValue.method (ReflectliteValue.valueError "reflectlite.Value.IsNil" 0) ReflectliteValue.isNil #[.agg #[hdl 87, .pointer (some a), .int .u64 150]]).run Tryz.prog W = .ok (.bool false) W := by
  rw [show ReflectliteValue.method (ReflectliteValue.valueError "reflectlite.Value.IsNil" 0) ReflectliteValue.isNil #[(.agg #[hdl 87, .pointer (some a), .int .u64 150])] = Bind.bind (ReflectliteValue.parts (.agg #[hdl 87, .pointer (some a), .int .u64 150])) _ from rfl]
  simp only [Sem.run_bind, as_parts, Result.andThen]
  simp [ReflectliteValue.isNil, loadVar, isAgg, underlying, Tryz.underlying87, ha, Result.andThen]
theorem as_elemV (a p : Addr) (W : World) (ha : W.cell? a = some (.pointer (some p))) :
    (ReflectliteValue.method (ReflectliteValue.valueError "reflectlite.Value.Elem" 0) ReflectliteValue.elem #[.agg #[hdl 87, .pointer (some a), .int .u64 150]]).run Tryz.prog W
      = .ok (.agg #[hdl 60, .pointer (some p), .int .u64 406]) W := by
  rw [show ReflectliteValue.method (ReflectliteValue.valueError "reflectlite.Value.Elem" 0) ReflectliteValue.elem #[(.agg #[hdl 87, .pointer (some a), .int .u64 150])] = Bind.bind (ReflectliteValue.parts (.agg #[hdl 87, .pointer (some a), .int .u64 150])) _ from rfl]
  simp only [Sem.run_bind, as_parts, Result.andThen]
  simp [ReflectliteValue.elem, loadVar, isAgg, underlying, Tryz.underlying87, ha, Result.andThen, as_elemOf, as_mk]
end Go.Proofs.YtcajhnedmbhnfaaGreatDoor
namespace Go.Proofs.YtcajhnedmbhnfaaGreatDoor
open Go Go.RowKit Go.Extern.Stop Go.Stop Go.Extern

theorem as_set (ta b e : Addr) (old : Value) (W : World) (hb : W.cell? b = some (.pointer (some e))) (ht : W.cell? ta = some old) (hf : W.frozen? ta = false) :
    (ReflectliteValue.set #[.agg #[hdl 60, .pointer (some ta), .int .u64 406], .agg #[hdl 60, .pointer (some b), .int .u64 150]]).run Tryz.prog W
      = .ok (.tuple #[]) (W.setCell ta (.pointer (some e))) := by
  rw [show ReflectliteValue.set #[.agg #[hdl 60, .pointer (some ta), .int .u64 406], .agg #[hdl 60, .pointer (some b), .int .u64 150]] = Bind.bind (ReflectliteValue.parts (.agg #[hdl 60, .pointer (some ta), .int .u64 406])) (fun _r => Bind.bind (ReflectliteValue.parts (.agg #[hdl 60, .pointer (some b), .int .u64 150])) _) from rfl]
  simp only [Sem.run_bind, as_partsA, as_partsE, Result.andThen]
  simp [ReflectliteValue.flagAddr, loadVar, isAgg, underlying, Tryz.underlying60, hb, Result.andThen, as_direct, storeVar, Value.cells, storeCells, Addr.add]
  rw [run_store Tryz.prog W ta _ _ (by rfl)]
  simp [ht, hf]
end Go.Proofs.YtcajhnedmbhnfaaGreatDoor
namespace Go.Proofs.YtcajhnedmbhnfaaGreatDoor
open Go Go.RowKit Go.Extern.Stop Go.Stop Go.Extern

theorem m_kind (h : Value) (w : World) : (Go.method 387 143 (.agg #[h]) "Kind").run Tryz.prog w = .ok (195, h) w := by kernel_rfl
theorem m_elem (h : Value) (w : World) : (Go.method 387 143 (.agg #[h]) "Elem").run Tryz.prog w = .ok (205, .agg #[h]) w := by kernel_rfl
theorem m_implements (h : Value) (w : World) : (Go.method 387 143 (.agg #[h]) "Implements").run Tryz.prog w = .ok (206, .agg #[h]) w := by kernel_rfl
theorem m_assignable (h : Value) (w : World) : (Go.method 387 143 (.agg #[h]) "AssignableTo").run Tryz.prog w = .ok (203, .agg #[h]) w := by kernel_rfl
theorem m_comparable (h : Value) (w : World) : (Go.method 387 143 (.agg #[h]) "Comparable").run Tryz.prog w = .ok (204, .agg #[h]) w := by kernel_rfl

def ErrType (w : World) : Prop := w.cell? ⟨0, 0, none⟩ = some (.iface 143 (.agg #[hdl 32]))
abbrev refBlk (t : Addr) : Obj := .cells #[.pointer (some t)] 87

set_option maxHeartbeats 4000000 in
set_option maxRecDepth 100000 in
theorem as_hit (e : Addr) (rb : Nat) (old : Value) (w : World) (hg : ErrType w) (hr : Boxed w rb 60 old) :
    Calls Tryz.prog 35 #[.iface 60 (.pointer (some e)), .iface 87 (.pointer (some ⟨rb, 0, none⟩))] w fun ev w' => ev = .returned (.bool true) ∧ ∃ w1, Below w.heap.size w w1 ∧ w' = w1.setCell ⟨rb, 0, none⟩ (.pointer (some e)) := by
  have h30 := @run_callFunc_extern Tryz.prog 48 _ (fun args => ReflectliteValue.unpack (args.getD 0 (.tuple #[]))) Tryz.func48 (by kernel_rfl) (by kernel_rfl) (by kernel_rfl) (by kernel_rfl)
  have h31 := @run_callFunc_extern Tryz.prog 49 _ (ReflectliteValue.methodAny (ReflectliteValue.valueError "reflectlite.Value.Type" 0) (fun t _ _ _ => ReflectliteType.toType t)) Tryz.func49 (by kernel_rfl) (by kernel_rfl) (by kernel_rfl) (by kernel_rfl)
  have h32 := @run_callFunc_extern Tryz.prog 50 _ (ReflectliteValue.method (ReflectliteValue.valueError "reflectlite.Value.IsNil" 0) ReflectliteValue.isNil) Tryz.func50 (by kernel_rfl) (by kernel_rfl) (by kernel_rfl) (by kernel_rfl)
  have hkd := @run_callFunc_extern Tryz.prog 195 _ (ReflectliteType.abiMethod fun t => do pure (.int .u8 (← Rtype.kind t))) Tryz.func195 (by kernel_rfl) (by kernel_rfl) (by kernel_rfl) (by kernel_rfl)
  have hel := @run_callFunc_extern Tryz.prog 205 _ (ReflectliteType.method ReflectliteType.elem) Tryz.func205 (by kernel_rfl) (by kernel_rfl) (by kernel_rfl) (by kernel_rfl)
  have him := @run_callFunc_extern Tryz.prog 206 _ (ReflectliteType.relation "Implements" ReflectliteType.implements_) Tryz.func206 (by kernel_rfl) (by kernel_rfl) (by kernel_rfl) (by kernel_rfl)
  have hto := @run_callFunc_extern Tryz.prog 54 _ ReflectliteType.typeOf Tryz.func54 (by kernel_rfl) (by kernel_rfl) (by kernel_rfl) (by kernel_rfl)
  have hat := @run_callFunc_extern Tryz.prog 203 _ (ReflectliteType.relation "AssignableTo" ReflectliteType.assignableTo) Tryz.func203 (by kernel_rfl) (by kernel_rfl) (by kernel_rfl) (by kernel_rfl)
  have hev := @run_callFunc_extern Tryz.prog 62 _ (ReflectliteValue.method (ReflectliteValue.valueError "reflectlite.Value.Elem" 0) ReflectliteValue.elem) Tryz.func62 (by kernel_rfl) (by kernel_rfl) (by kernel_rfl) (by kernel_rfl)
  have hst := @run_callFunc_extern Tryz.prog 63 _ ReflectliteValue.set Tryz.func63 (by kernel_rfl) (by kernel_rfl) (by kernel_rfl) (by kernel_rfl)
  have f1 := as_valueOf
  have f2 := as_type
  have f3 := m_kind
  have f4 := m_elem
  have f5 := m_implements
  have f6 := as_kindP
  have f7 := as_kindE
  have f8 := as_elemT
  have f9 := as_implements
  have fa := as_typeOf
  have fb := m_assignable
  have fc := as_assignable
  have fd := as_valueE
  have hrl := hr.lt
  have hlt : 0 < w.heap.size := cellLt hg
  have n8 := as_isNil ⟨w.heap.size, 0, none⟩ ⟨rb, 0, none⟩ ((w.alloc (refBlk ⟨rb, 0, none⟩)).alloc (.cells #[hdl 87, .pointer (some ⟨w.heap.size, 0, none⟩), .int .u64 150] 116)) (by simp)
  have hg2 : ((w.alloc (refBlk ⟨rb, 0, none⟩)).alloc (.cells #[hdl 87, .pointer (some ⟨w.heap.size, 0, none⟩), .int .u64 150] 116)).cell? ⟨0, 0, none⟩ = some (.iface 143 (.agg #[hdl 32])) := by
    rw [World.cell?_alloc_lt _ _ ⟨0, 0, none⟩ (by simp), World.cell?_alloc_lt _ _ ⟨0, 0, none⟩ hlt]; exact hg
  have el := as_elemV ⟨w.heap.size, 0, none⟩ ⟨rb, 0, none⟩ (((w.alloc (refBlk ⟨rb, 0, none⟩)).alloc (.cells #[hdl 87, .pointer (some ⟨w.heap.size, 0, none⟩), .int .u64 150] 116)).alloc (.cells #[hdl 87, .pointer (some ⟨w.heap.size, 0, none⟩), .int .u64 150] 116)) (by rw [World.cell?_alloc_lt _ _ ⟨w.heap.size, 0, none⟩ (by simp; omega), World.cell?_alloc_lt _ _ ⟨w.heap.size, 0, none⟩ (by simp), World.cell?_alloc_at _ _ _ _ (by simp)]; rfl)
  have b4 : Boxed ((((w.alloc (refBlk ⟨rb, 0, none⟩)).alloc (.cells #[hdl 87, .pointer (some ⟨w.heap.size, 0, none⟩), .int .u64 150] 116)).alloc (.cells #[hdl 87, .pointer (some ⟨w.heap.size, 0, none⟩), .int .u64 150] 116)).alloc (.cells #[.pointer (some e)] 60)) rb 60 old := (((hr.alloc _).alloc _).alloc _).alloc _
  have st := as_set ⟨rb, 0, none⟩ ⟨w.heap.size + 1 + 1 + 1, 0, none⟩ e old ((((w.alloc (refBlk ⟨rb, 0, none⟩)).alloc (.cells #[hdl 87, .pointer (some ⟨w.heap.size, 0, none⟩), .int .u64 150] 116)).alloc (.cells #[hdl 87, .pointer (some ⟨w.heap.size, 0, none⟩), .int .u64 150] 116)).alloc (.cells #[.pointer (some e)] 60)) (by rw [World.cell?_alloc_at _ _ _ _ (by simp)]; rfl) b4.cell b4.frozen
  go_enter Tryz.func35, Tryz.ntmps35
  go_wp2
  refine wp_loop_rounds 1 ?_
  rw [rounds_succ]
  go_wp2
  go_ret
  exact ⟨rfl, _, (((((Below.refl w.heap.size w).alloc (by omega) _).alloc (by simp) _).alloc (by simp; omega) _).alloc (by simp; omega) _), rfl⟩
end Go.Proofs.YtcajhnedmbhnfaaGreatDoor
namespace Go.Proofs.YtcajhnedmbhnfaaGreatDoor
open Go Go.RowKit Go.Extern.Stop Go.Stop Go.Extern
open Am
theorem err_type {w : World} (h : GlobOk w) : ErrType w := by
  obtain ⟨c, e, f, h1, h2⟩ := h.obj 0 _ rfl
  show w.cell? _ = _
  have h3 : c[0]? = some (.iface 143 (.agg #[hdl 32])) := by rw [← Array.getElem?_toList, h2]; rfl
  simp [World.cell?, h1, h3]
theorem as_fn : CallOk Tryz.prog (fun f' args s k => cond (Nat.beq f' 35) (xAs 60 87 args s k) false) := as_ok (by kernel_rfl) fun e rb old w hg hb => as_hit e rb old w (err_type hg) hb
end Go.Proofs.YtcajhnedmbhnfaaGreatDoor
