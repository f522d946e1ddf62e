/-
  errors.Is, walked at what the statements hand it, as a function that the evaluator takes as told (AmAs). Own work.
-/
import Derived.Test.YtcajhnedmbhnfaaGreatDoorRAs
namespace Go.Proofs.YtcajhnedmbhnfaaGreatDoor
open Go Go.RowKit Go.Extern.Stop Go.Stop Go.Extern

/-- '==' of two interface values of one integer type (the kit's note gives the way). -/
theorem equalIn_int (d : Nat) (w : World) (y : Int) : (Op.equalIn (d + 2) 32 (.iface 88 (.int .i64 y)) (.iface 88 (.int .i64 y))).run Tryz.prog w = .ok true w := by
  obtain ⟨i, hi, hc⟩ := Option.map_eq_some_iff.1 (show (Tryz.prog.info? 88).map (·.comparable) = some true by kernel_rfl)
  simp [Op.equalIn, run_underlying Tryz.underlying32, run_underlying Tryz.underlying88, typeInfo, hi, hc]
theorem eql_int (w : World) (y : Int) : (binOp .eql 32 (.iface 88 (.int .i64 y)) (.iface 88 (.int .i64 y))).run Tryz.prog w = .ok (.bool true) w := by
  simp only [binOp]
  simp [Op.equal, Op.maxDepth, equalIn_int 9998 w y]
theorem eql_types (w : World) (p : Value) (y : Int) : (binOp .eql 32 (.iface 60 p) (.iface 88 (.int .i64 y))).run Tryz.prog w = .ok (.bool false) w :=
  run_eql_iface_types (P := Tryz.prog) 60 88 p (.int .i64 y) Tryz.underlying32 (by decide) w
theorem is_typeOf (v : Value) (w : World) : (ReflectliteType.typeOf #[.iface 88 v]).run Tryz.prog w = .ok (.iface 143 (.agg #[hdl 88])) w := by kernel_rfl
theorem is_comparable (w : World) : ((ReflectliteType.method fun t => do Rtype.noPackHeld "Comparable" t; (fun a => Value.bool a.comparable) <$> typeInfo t) #[.agg #[hdl 88]]).run Tryz.prog w = .ok (.bool true) w := by kernel_rfl
theorem is_noIs (v : Value) (x : TypeId) (w : World) : (Instr.typeAssert (.iface 60 v) x 156 true).run Tryz.prog w = .ok (.tuple #[.nilIface, .bool false]) w := run_typeAssert_lacksB Tryz.underlying156 (by kernel_rfl) (by kernel_rfl) v x w
theorem is_unwrap (v : Value) (x : TypeId) (w : World) : (Instr.typeAssert (.iface 60 v) x 150 true).run Tryz.prog w = .ok (.tuple #[.iface 60 v, .bool true]) w := run_typeAssert_hasB Tryz.underlying150 (by kernel_rfl) v x w
theorem m_unwrap (a : Addr) (w : World) : (Go.method 387 60 (.pointer (some a)) "Unwrap").run Tryz.prog w = .ok (198, .pointer (some a)) w := by kernel_rfl

set_option maxHeartbeats 4000000 in
set_option maxRecDepth 100000 in
theorem is_hit (b : Nat) (y : Int) (w : World) (h1 : w.cell? ⟨b, 1, none⟩ = some (.int .i64 y)) :
    Calls Tryz.prog 38 #[.iface 60 (.pointer (some ⟨b, 0, none⟩)), .iface 88 (.int .i64 y)] w fun ev w' => ev = .returned (.bool true) ∧ w = w' := by
  have hto := @run_callFunc_extern Tryz.prog 54 _ ReflectliteType.typeOf Tryz.func54 (by kernel_rfl) (by kernel_rfl) (by kernel_rfl) (by kernel_rfl)
  have hcm := @run_callFunc_extern Tryz.prog 204 _ (ReflectliteType.method fun t => do Rtype.noPackHeld "Comparable" t; pure (.bool (← typeInfo t).comparable)) Tryz.func204 (by kernel_rfl) (by kernel_rfl) (by kernel_rfl) (by kernel_rfl)
  have f1 := is_typeOf
  have f2 := is_comparable
  have f3 := m_comparable
  have f4 := eql_types
  have f5 := eql_int
  have f6 := is_noIs
  have f7 := is_unwrap
  have f8 := m_unwrap
  go_enter Tryz.func38, Tryz.ntmps38
  go_wp2
  refine wp_loop_rounds 2 ?_
  rw [rounds_succ]
  go_wp2
  rw [rounds_succ]
  go_wp2
  go_ret
  exact ⟨rfl, rfl⟩
open Am
theorem is_fn : CallOk Tryz.prog (fun f' args s k => cond (Nat.beq f' 38) (xIs 60 88 1 args s k) false) := is_ok (by kernel_rfl) fun b y w h => is_hit b y w h
end Go.Proofs.YtcajhnedmbhnfaaGreatDoor
