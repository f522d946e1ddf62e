/-
  errors.Is at a refusal of package lex and its number, walked.
-/
import Derived.Test.YtkahhkeohmljaabDoorAs3
namespace Go.Proofs.YtkahhkeohmljaabDoor
open Go Go.RowKit Go.Extern.Stop Go.Stop Go.Extern

/-- '==' of two interface values of one integer type (the kit's note gives the way). -/
theorem equalIn_int (d : Nat) (w : World) (y : Int) : (Op.equalIn (d + 2) 26 (.iface 36 (.int .i64 y)) (.iface 36 (.int .i64 y))).run Tryd.prog w = .ok true w := by
  obtain ⟨i, hi, hc⟩ := Option.map_eq_some_iff.1 (show (Tryd.prog.info? 36).map (·.comparable) = some true by kernel_rfl)
  simp [Op.equalIn, run_underlying Tryd.underlying26, run_underlying Tryd.underlying36, typeInfo, hi, hc]
theorem eql_int (w : World) (y : Int) : (binOp .eql 26 (.iface 36 (.int .i64 y)) (.iface 36 (.int .i64 y))).run Tryd.prog w = .ok (.bool true) w := by
  simp only [binOp]
  simp [Op.equal, Op.maxDepth, equalIn_int 9998 w y]
theorem eql_types (w : World) (p : Value) (y : Int) : (binOp .eql 26 (.iface 49 p) (.iface 36 (.int .i64 y))).run Tryd.prog w = .ok (.bool false) w :=
  run_eql_iface_types (P := Tryd.prog) 49 36 p (.int .i64 y) Tryd.underlying26 (by decide) w
theorem is_typeOf (v : Value) (w : World) : (ReflectliteType.typeOf #[.iface 36 v]).run Tryd.prog w = .ok (.iface 96 (.agg #[hdl 36])) w := by kernel_rfl
theorem is_comparable (w : World) : ((ReflectliteType.method fun t => do Rtype.noPackHeld "Comparable" t; (fun a => Value.bool a.comparable) <$> typeInfo t) #[.agg #[hdl 36]]).run Tryd.prog w = .ok (.bool true) w := by kernel_rfl
theorem is_noIs (v : Value) (x : TypeId) (w : World) : (Instr.typeAssert (.iface 49 v) x 108 true).run Tryd.prog w = .ok (.tuple #[.nilIface, .bool false]) w := run_typeAssert_lacksB Tryd.underlying108 (by kernel_rfl) (by kernel_rfl) v x w
theorem is_unwrap (v : Value) (x : TypeId) (w : World) : (Instr.typeAssert (.iface 49 v) x 103 true).run Tryd.prog w = .ok (.tuple #[.iface 49 v, .bool true]) w := run_typeAssert_hasB Tryd.underlying103 (by kernel_rfl) v x w
theorem m_unwrap (a : Addr) (w : World) : (Go.method 264 49 (.pointer (some a)) "Unwrap").run Tryd.prog w = .ok (108, .pointer (some a)) w := by kernel_rfl

set_option maxHeartbeats 4000000 in
set_option maxRecDepth 100000 in
theorem is_hit (b : Nat) (y : Int) (w : World) (h1 : w.cell? ⟨b, 1, none⟩ = some (.int .i64 y)) :
    Calls Tryd.prog 23 #[.iface 49 (.pointer (some ⟨b, 0, none⟩)), .iface 36 (.int .i64 y)] w fun ev w' => ev = .returned (.bool true) ∧ w = w' := by
  have hto := @run_callFunc_extern Tryd.prog 41 _ ReflectliteType.typeOf Tryd.func41 (by kernel_rfl) (by kernel_rfl) (by kernel_rfl) (by kernel_rfl)
  have hcm := @run_callFunc_extern Tryd.prog 115 _ (ReflectliteType.method fun t => do Rtype.noPackHeld "Comparable" t; pure (.bool (← typeInfo t).comparable)) Tryd.func115 (by kernel_rfl) (by kernel_rfl) (by kernel_rfl) (by kernel_rfl)
  have f1 := is_typeOf
  have f2 := is_comparable
  have f3 := m_comparable
  have f4 := eql_types
  have f5 := eql_int
  have f6 := is_noIs
  have f7 := is_unwrap
  have f8 := m_unwrap
  go_enter Tryd.func23, Tryd.ntmps23
  go_wp2
  refine wp_loop_rounds 2 ?_
  rw [rounds_succ]
  go_wp2
  rw [rounds_succ]
  go_wp2
  go_ret
  exact ⟨rfl, rfl⟩
end Go.Proofs.YtkahhkeohmljaabDoor
