/-
  errors.Is at a refusal of package lex and its number, walked.
-/
import Derived.Test.YthplgkkailieoaaGreatDoorAs3
namespace Go.Proofs.YthplgkkailieoaaGreatDoor
open Go Go.RowKit Go.Extern.Stop Go.Stop Go.Extern

/-- '==' of two interface values of one integer type (the kit's note gives the way). -/
theorem equalIn_int (d : Nat) (w : World) (y : Int) : (Op.equalIn (d + 2) 32 (.iface 54 (.int .i64 y)) (.iface 54 (.int .i64 y))).run Tryz.prog w = .ok true w := by
  obtain ⟨i, hi, hc⟩ := Option.map_eq_some_iff.1 (show (Tryz.prog.info? 54).map (·.comparable) = some true by kernel_rfl)
  simp [Op.equalIn, run_underlying Tryz.underlying32, run_underlying Tryz.underlying54, typeInfo, hi, hc]
theorem eql_int (w : World) (y : Int) : (binOp .eql 32 (.iface 54 (.int .i64 y)) (.iface 54 (.int .i64 y))).run Tryz.prog w = .ok (.bool true) w := by
  simp only [binOp]
  simp [Op.equal, Op.maxDepth, equalIn_int 9998 w y]
theorem eql_types (w : World) (p : Value) (y : Int) : (binOp .eql 32 (.iface 64 p) (.iface 54 (.int .i64 y))).run Tryz.prog w = .ok (.bool false) w :=
  run_eql_iface_types (P := Tryz.prog) 64 54 p (.int .i64 y) Tryz.underlying32 (by decide) w
theorem is_typeOf (v : Value) (w : World) : (ReflectliteType.typeOf #[.iface 54 v]).run Tryz.prog w = .ok (.iface 120 (.agg #[hdl 54])) w := by kernel_rfl
theorem is_comparable (w : World) : ((ReflectliteType.method fun t => do Rtype.noPackHeld "Comparable" t; (fun a => Value.bool a.comparable) <$> typeInfo t) #[.agg #[hdl 54]]).run Tryz.prog w = .ok (.bool true) w := by kernel_rfl
theorem is_noIs (v : Value) (x : TypeId) (w : World) : (Instr.typeAssert (.iface 64 v) x 132 true).run Tryz.prog w = .ok (.tuple #[.nilIface, .bool false]) w := run_typeAssert_lacksB Tryz.underlying132 (by kernel_rfl) (by kernel_rfl) v x w
theorem is_unwrap (v : Value) (x : TypeId) (w : World) : (Instr.typeAssert (.iface 64 v) x 127 true).run Tryz.prog w = .ok (.tuple #[.iface 64 v, .bool true]) w := run_typeAssert_hasB Tryz.underlying127 (by kernel_rfl) v x w
theorem m_unwrap (a : Addr) (w : World) : (Go.method 288 64 (.pointer (some a)) "Unwrap").run Tryz.prog w = .ok (133, .pointer (some a)) w := by kernel_rfl

set_option maxHeartbeats 4000000 in
set_option maxRecDepth 100000 in
theorem is_hit (b : Nat) (y : Int) (w : World) (h1 : w.cell? ⟨b, 1, none⟩ = some (.int .i64 y)) :
    Calls Tryz.prog 29 #[.iface 64 (.pointer (some ⟨b, 0, none⟩)), .iface 54 (.int .i64 y)] w fun ev w' => ev = .returned (.bool true) ∧ w = w' := by
  have hto := @run_callFunc_extern Tryz.prog 60 _ ReflectliteType.typeOf Tryz.func60 (by kernel_rfl) (by kernel_rfl) (by kernel_rfl) (by kernel_rfl)
  have hcm := @run_callFunc_extern Tryz.prog 140 _ (ReflectliteType.method fun t => do Rtype.noPackHeld "Comparable" t; pure (.bool (← typeInfo t).comparable)) Tryz.func140 (by kernel_rfl) (by kernel_rfl) (by kernel_rfl) (by kernel_rfl)
  have f1 := is_typeOf
  have f2 := is_comparable
  have f3 := m_comparable
  have f4 := eql_types
  have f5 := eql_int
  have f6 := is_noIs
  have f7 := is_unwrap
  have f8 := m_unwrap
  go_enter Tryz.func29, Tryz.ntmps29
  go_wp2
  refine wp_loop_rounds 2 ?_
  rw [rounds_succ]
  go_wp2
  rw [rounds_succ]
  go_wp2
  go_ret
  exact ⟨rfl, rfl⟩
end Go.Proofs.YthplgkkailieoaaGreatDoor
