/-
  errors.As at a refusal, walked.
-/
import Derived.Test.YthplgkkailieoaaGreatDoorAs2
namespace Go.Proofs.YthplgkkailieoaaGreatDoor
open Go Go.RowKit Go.Extern.Stop Go.Stop Go.Extern

theorem m_kind (h : Value) (w : World) : (Go.method 288 120 (.agg #[h]) "Kind").run Tryz.prog w = .ok (130, h) w := by kernel_rfl
theorem m_elem (h : Value) (w : World) : (Go.method 288 120 (.agg #[h]) "Elem").run Tryz.prog w = .ok (141, .agg #[h]) w := by kernel_rfl
theorem m_implements (h : Value) (w : World) : (Go.method 288 120 (.agg #[h]) "Implements").run Tryz.prog w = .ok (142, .agg #[h]) w := by kernel_rfl
theorem m_assignable (h : Value) (w : World) : (Go.method 288 120 (.agg #[h]) "AssignableTo").run Tryz.prog w = .ok (139, .agg #[h]) w := by kernel_rfl
theorem m_comparable (h : Value) (w : World) : (Go.method 288 120 (.agg #[h]) "Comparable").run Tryz.prog w = .ok (140, .agg #[h]) w := by kernel_rfl

def ErrType (w : World) : Prop := w.cell? ⟨0, 0, none⟩ = some (.iface 120 (.agg #[hdl 32]))
abbrev refBlk (t : Addr) : Obj := .cells #[.pointer (some t)] 68

set_option maxHeartbeats 4000000 in
set_option maxRecDepth 100000 in
theorem as_hit (e : Addr) (rb : Nat) (old : Value) (w : World) (hg : ErrType w) (hr : Boxed w rb 64 old) (hrb : 0 < rb) :
    Calls Tryz.prog 26 #[.iface 64 (.pointer (some e)), .iface 68 (.pointer (some ⟨rb, 0, none⟩))] w fun ev w' => ev = .returned (.bool true) ∧ Boxed w' rb 64 (.pointer (some e)) ∧ Below rb w w' := by
  have h30 := @run_callFunc_extern Tryz.prog 54 _ (fun args => ReflectliteValue.unpack (args.getD 0 (.tuple #[]))) Tryz.func54 (by kernel_rfl) (by kernel_rfl) (by kernel_rfl) (by kernel_rfl)
  have h31 := @run_callFunc_extern Tryz.prog 55 _ (ReflectliteValue.methodAny (ReflectliteValue.valueError "reflectlite.Value.Type" 0) (fun t _ _ _ => ReflectliteType.toType t)) Tryz.func55 (by kernel_rfl) (by kernel_rfl) (by kernel_rfl) (by kernel_rfl)
  have h32 := @run_callFunc_extern Tryz.prog 56 _ (ReflectliteValue.method (ReflectliteValue.valueError "reflectlite.Value.IsNil" 0) ReflectliteValue.isNil) Tryz.func56 (by kernel_rfl) (by kernel_rfl) (by kernel_rfl) (by kernel_rfl)
  have hkd := @run_callFunc_extern Tryz.prog 130 _ (ReflectliteType.abiMethod fun t => do pure (.int .u8 (← Rtype.kind t))) Tryz.func130 (by kernel_rfl) (by kernel_rfl) (by kernel_rfl) (by kernel_rfl)
  have hel := @run_callFunc_extern Tryz.prog 141 _ (ReflectliteType.method ReflectliteType.elem) Tryz.func141 (by kernel_rfl) (by kernel_rfl) (by kernel_rfl) (by kernel_rfl)
  have him := @run_callFunc_extern Tryz.prog 142 _ (ReflectliteType.relation "Implements" ReflectliteType.implements_) Tryz.func142 (by kernel_rfl) (by kernel_rfl) (by kernel_rfl) (by kernel_rfl)
  have hto := @run_callFunc_extern Tryz.prog 60 _ ReflectliteType.typeOf Tryz.func60 (by kernel_rfl) (by kernel_rfl) (by kernel_rfl) (by kernel_rfl)
  have hat := @run_callFunc_extern Tryz.prog 139 _ (ReflectliteType.relation "AssignableTo" ReflectliteType.assignableTo) Tryz.func139 (by kernel_rfl) (by kernel_rfl) (by kernel_rfl) (by kernel_rfl)
  have hev := @run_callFunc_extern Tryz.prog 78 _ (ReflectliteValue.method (ReflectliteValue.valueError "reflectlite.Value.Elem" 0) ReflectliteValue.elem) Tryz.func78 (by kernel_rfl) (by kernel_rfl) (by kernel_rfl) (by kernel_rfl)
  have hst := @run_callFunc_extern Tryz.prog 79 _ ReflectliteValue.set Tryz.func79 (by kernel_rfl) (by kernel_rfl) (by kernel_rfl) (by kernel_rfl)
  have f1 := as_valueOf
  have f2 := as_type
  have f3 := m_kind
  have f4 := m_elem
  have f5 := m_implements
  have f6 := as_kindP
  have f7 := as_kindE
  have f8 := as_elemT
  have f9 := as_implements
  have fa := as_typeOf
  have fb := m_assignable
  have fc := as_assignable
  have fd := as_valueE
  have hrl := hr.lt
  have hlt : 0 < w.heap.size := by omega
  have n8 := as_isNil ⟨w.heap.size, 0, none⟩ ⟨rb, 0, none⟩ ((w.alloc (refBlk ⟨rb, 0, none⟩)).alloc (.cells #[hdl 68, .pointer (some ⟨w.heap.size, 0, none⟩), .int .u64 150] 98)) (by simp)
  have hg2 : ((w.alloc (refBlk ⟨rb, 0, none⟩)).alloc (.cells #[hdl 68, .pointer (some ⟨w.heap.size, 0, none⟩), .int .u64 150] 98)).cell? ⟨0, 0, none⟩ = some (.iface 120 (.agg #[hdl 32])) := by
    rw [World.cell?_alloc_lt _ _ ⟨0, 0, none⟩ (by simp), World.cell?_alloc_lt _ _ ⟨0, 0, none⟩ hlt]; exact hg
  have el := as_elemV ⟨w.heap.size, 0, none⟩ ⟨rb, 0, none⟩ (((w.alloc (refBlk ⟨rb, 0, none⟩)).alloc (.cells #[hdl 68, .pointer (some ⟨w.heap.size, 0, none⟩), .int .u64 150] 98)).alloc (.cells #[hdl 68, .pointer (some ⟨w.heap.size, 0, none⟩), .int .u64 150] 98)) (by rw [World.cell?_alloc_lt _ _ ⟨w.heap.size, 0, none⟩ (by simp; omega), World.cell?_alloc_lt _ _ ⟨w.heap.size, 0, none⟩ (by simp), World.cell?_alloc_at _ _ _ _ (by simp)]; rfl)
  have b4 : Boxed ((((w.alloc (refBlk ⟨rb, 0, none⟩)).alloc (.cells #[hdl 68, .pointer (some ⟨w.heap.size, 0, none⟩), .int .u64 150] 98)).alloc (.cells #[hdl 68, .pointer (some ⟨w.heap.size, 0, none⟩), .int .u64 150] 98)).alloc (.cells #[.pointer (some e)] 64)) rb 64 old := (((hr.alloc _).alloc _).alloc _).alloc _
  have st := as_set ⟨rb, 0, none⟩ ⟨w.heap.size + 1 + 1 + 1, 0, none⟩ e old ((((w.alloc (refBlk ⟨rb, 0, none⟩)).alloc (.cells #[hdl 68, .pointer (some ⟨w.heap.size, 0, none⟩), .int .u64 150] 98)).alloc (.cells #[hdl 68, .pointer (some ⟨w.heap.size, 0, none⟩), .int .u64 150] 98)).alloc (.cells #[.pointer (some e)] 64)) (by rw [World.cell?_alloc_at _ _ _ _ (by simp)]; rfl) b4.cell b4.frozen
  go_enter Tryz.func26, Tryz.ntmps26
  go_wp2
  refine wp_loop_rounds 1 ?_
  rw [rounds_succ]
  go_wp2
  go_ret
  exact ⟨rfl, b4.set _, (((((Below.refl rb w).alloc (by omega) _).alloc (by simp; omega) _).alloc (by simp; omega) _).alloc (by simp; omega) _).setCell (p := ⟨rb, 0, none⟩) (Nat.le_refl _) _⟩
end Go.Proofs.YthplgkkailieoaaGreatDoor
