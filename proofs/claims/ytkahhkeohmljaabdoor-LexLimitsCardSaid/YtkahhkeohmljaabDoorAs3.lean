/-
  errors.As at a refusal, walked.
-/
import Derived.Test.YtkahhkeohmljaabDoorAs2
namespace Go.Proofs.YtkahhkeohmljaabDoor
open Go Go.RowKit Go.Extern.Stop Go.Stop Go.Extern

theorem m_kind (h : Value) (w : World) : (Go.method 264 96 (.agg #[h]) "Kind").run Tryd.prog w = .ok (105, h) w := by kernel_rfl
theorem m_elem (h : Value) (w : World) : (Go.method 264 96 (.agg #[h]) "Elem").run Tryd.prog w = .ok (116, .agg #[h]) w := by kernel_rfl
theorem m_implements (h : Value) (w : World) : (Go.method 264 96 (.agg #[h]) "Implements").run Tryd.prog w = .ok (117, .agg #[h]) w := by kernel_rfl
theorem m_assignable (h : Value) (w : World) : (Go.method 264 96 (.agg #[h]) "AssignableTo").run Tryd.prog w = .ok (114, .agg #[h]) w := by kernel_rfl
theorem m_comparable (h : Value) (w : World) : (Go.method 264 96 (.agg #[h]) "Comparable").run Tryd.prog w = .ok (115, .agg #[h]) w := by kernel_rfl

def ErrType (w : World) : Prop := w.cell? ⟨0, 0, none⟩ = some (.iface 96 (.agg #[hdl 26]))
abbrev refBlk (t : Addr) : Obj := .cells #[.pointer (some t)] 54

set_option maxHeartbeats 4000000 in
set_option maxRecDepth 100000 in
theorem as_hit (e : Addr) (rb : Nat) (old : Value) (w : World) (hg : ErrType w) (hr : Boxed w rb 49 old) (hrb : 0 < rb) :
    Calls Tryd.prog 20 #[.iface 49 (.pointer (some e)), .iface 54 (.pointer (some ⟨rb, 0, none⟩))] w fun ev w' => ev = .returned (.bool true) ∧ Boxed w' rb 49 (.pointer (some e)) ∧ Below rb w w' := by
  have h30 := @run_callFunc_extern Tryd.prog 35 _ (fun args => ReflectliteValue.unpack (args.getD 0 (.tuple #[]))) Tryd.func35 (by kernel_rfl) (by kernel_rfl) (by kernel_rfl) (by kernel_rfl)
  have h31 := @run_callFunc_extern Tryd.prog 36 _ (ReflectliteValue.methodAny (ReflectliteValue.valueError "reflectlite.Value.Type" 0) (fun t _ _ _ => ReflectliteType.toType t)) Tryd.func36 (by kernel_rfl) (by kernel_rfl) (by kernel_rfl) (by kernel_rfl)
  have h32 := @run_callFunc_extern Tryd.prog 37 _ (ReflectliteValue.method (ReflectliteValue.valueError "reflectlite.Value.IsNil" 0) ReflectliteValue.isNil) Tryd.func37 (by kernel_rfl) (by kernel_rfl) (by kernel_rfl) (by kernel_rfl)
  have hkd := @run_callFunc_extern Tryd.prog 105 _ (ReflectliteType.abiMethod fun t => do pure (.int .u8 (← Rtype.kind t))) Tryd.func105 (by kernel_rfl) (by kernel_rfl) (by kernel_rfl) (by kernel_rfl)
  have hel := @run_callFunc_extern Tryd.prog 116 _ (ReflectliteType.method ReflectliteType.elem) Tryd.func116 (by kernel_rfl) (by kernel_rfl) (by kernel_rfl) (by kernel_rfl)
  have him := @run_callFunc_extern Tryd.prog 117 _ (ReflectliteType.relation "Implements" ReflectliteType.implements_) Tryd.func117 (by kernel_rfl) (by kernel_rfl) (by kernel_rfl) (by kernel_rfl)
  have hto := @run_callFunc_extern Tryd.prog 41 _ ReflectliteType.typeOf Tryd.func41 (by kernel_rfl) (by kernel_rfl) (by kernel_rfl) (by kernel_rfl)
  have hat := @run_callFunc_extern Tryd.prog 114 _ (ReflectliteType.relation "AssignableTo" ReflectliteType.assignableTo) Tryd.func114 (by kernel_rfl) (by kernel_rfl) (by kernel_rfl) (by kernel_rfl)
  have hev := @run_callFunc_extern Tryd.prog 53 _ (ReflectliteValue.method (ReflectliteValue.valueError "reflectlite.Value.Elem" 0) ReflectliteValue.elem) Tryd.func53 (by kernel_rfl) (by kernel_rfl) (by kernel_rfl) (by kernel_rfl)
  have hst := @run_callFunc_extern Tryd.prog 54 _ ReflectliteValue.set Tryd.func54 (by kernel_rfl) (by kernel_rfl) (by kernel_rfl) (by kernel_rfl)
  have f1 := as_valueOf
  have f2 := as_type
  have f3 := m_kind
  have f4 := m_elem
  have f5 := m_implements
  have f6 := as_kindP
  have f7 := as_kindE
  have f8 := as_elemT
  have f9 := as_implements
  have fa := as_typeOf
  have fb := m_assignable
  have fc := as_assignable
  have fd := as_valueE
  have hrl := hr.lt
  have hlt : 0 < w.heap.size := by omega
  have n8 := as_isNil ⟨w.heap.size, 0, none⟩ ⟨rb, 0, none⟩ ((w.alloc (refBlk ⟨rb, 0, none⟩)).alloc (.cells #[hdl 54, .pointer (some ⟨w.heap.size, 0, none⟩), .int .u64 150] 78)) (by simp)
  have hg2 : ((w.alloc (refBlk ⟨rb, 0, none⟩)).alloc (.cells #[hdl 54, .pointer (some ⟨w.heap.size, 0, none⟩), .int .u64 150] 78)).cell? ⟨0, 0, none⟩ = some (.iface 96 (.agg #[hdl 26])) := by
    rw [World.cell?_alloc_lt _ _ ⟨0, 0, none⟩ (by simp), World.cell?_alloc_lt _ _ ⟨0, 0, none⟩ hlt]; exact hg
  have el := as_elemV ⟨w.heap.size, 0, none⟩ ⟨rb, 0, none⟩ (((w.alloc (refBlk ⟨rb, 0, none⟩)).alloc (.cells #[hdl 54, .pointer (some ⟨w.heap.size, 0, none⟩), .int .u64 150] 78)).alloc (.cells #[hdl 54, .pointer (some ⟨w.heap.size, 0, none⟩), .int .u64 150] 78)) (by rw [World.cell?_alloc_lt _ _ ⟨w.heap.size, 0, none⟩ (by simp; omega), World.cell?_alloc_lt _ _ ⟨w.heap.size, 0, none⟩ (by simp), World.cell?_alloc_at _ _ _ _ (by simp)]; rfl)
  have b4 : Boxed ((((w.alloc (refBlk ⟨rb, 0, none⟩)).alloc (.cells #[hdl 54, .pointer (some ⟨w.heap.size, 0, none⟩), .int .u64 150] 78)).alloc (.cells #[hdl 54, .pointer (some ⟨w.heap.size, 0, none⟩), .int .u64 150] 78)).alloc (.cells #[.pointer (some e)] 49)) rb 49 old := (((hr.alloc _).alloc _).alloc _).alloc _
  have st := as_set ⟨rb, 0, none⟩ ⟨w.heap.size + 1 + 1 + 1, 0, none⟩ e old ((((w.alloc (refBlk ⟨rb, 0, none⟩)).alloc (.cells #[hdl 54, .pointer (some ⟨w.heap.size, 0, none⟩), .int .u64 150] 78)).alloc (.cells #[hdl 54, .pointer (some ⟨w.heap.size, 0, none⟩), .int .u64 150] 78)).alloc (.cells #[.pointer (some e)] 49)) (by rw [World.cell?_alloc_at _ _ _ _ (by simp)]; rfl) b4.cell b4.frozen
  go_enter Tryd.func20, Tryd.ntmps20
  go_wp2
  refine wp_loop_rounds 1 ?_
  rw [rounds_succ]
  go_wp2
  go_ret
  exact ⟨rfl, b4.set _, (((((Below.refl rb w).alloc (by omega) _).alloc (by simp; omega) _).alloc (by simp; omega) _).alloc (by simp; omega) _).setCell (p := ⟨rb, 0, none⟩) (Nat.le_refl _) _⟩
end Go.Proofs.YtkahhkeohmljaabDoor
