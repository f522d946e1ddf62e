/-
  errors.Is, walked at what the statements hand it, as a function that the evaluator takes as told (AmAs). Own work.
-/
import Derived.Test.YtoijoamkbjpihaaGreatDoorRAs
namespace Go.Proofs.YtoijoamkbjpihaaGreatDoor
open Go Go.RowKit Go.Extern.Stop Go.Stop Go.Extern

/-- '==' of two interface values of one integer type (the kit's note gives the way). -/
theorem equalIn_int (d : Nat) (w : World) (y : Int) : (Op.equalIn (d + 2) 24 (.iface 79 (.int .i64 y)) (.iface 79 (.int .i64 y))).run Tryz.prog w = .ok true w := by
  obtain ⟨i, hi, hc⟩ := Option.map_eq_some_iff.1 (show (Tryz.prog.info? 79).map (·.comparable) = some true by kernel_rfl)
  simp [Op.equalIn, run_underlying Tryz.underlying24, run_underlying Tryz.underlying79, typeInfo, hi, hc]
theorem eql_int (w : World) (y : Int) : (binOp .eql 24 (.iface 79 (.int .i64 y)) (.iface 79 (.int .i64 y))).run Tryz.prog w = .ok (.bool true) w := by
  simp only [binOp]
  simp [Op.equal, Op.maxDepth, equalIn_int 9998 w y]
theorem eql_types (w : World) (p : Value) (y : Int) : (binOp .eql 24 (.iface 82 p) (.iface 79 (.int .i64 y))).run Tryz.prog w = .ok (.bool false) w :=
  run_eql_iface_types (P := Tryz.prog) 82 79 p (.int .i64 y) Tryz.underlying24 (by decide) w
theorem is_typeOf (v : Value) (w : World) : (ReflectliteType.typeOf #[.iface 79 v]).run Tryz.prog w = .ok (.iface 263 (.agg #[hdl 79])) w := by kernel_rfl
theorem is_comparable (w : World) : ((ReflectliteType.method fun t => do Rtype.noPackHeld "Comparable" t; (fun a => Value.bool a.comparable) <$> typeInfo t) #[.agg #[hdl 79]]).run Tryz.prog w = .ok (.bool true) w := by kernel_rfl
theorem is_noIs (v : Value) (x : TypeId) (w : World) : (Instr.typeAssert (.iface 82 v) x 276 true).run Tryz.prog w = .ok (.tuple #[.nilIface, .bool false]) w := run_typeAssert_lacksB Tryz.underlying276 (by kernel_rfl) (by kernel_rfl) v x w
theorem is_unwrap (v : Value) (x : TypeId) (w : World) : (Instr.typeAssert (.iface 82 v) x 270 true).run Tryz.prog w = .ok (.tuple #[.iface 82 v, .bool true]) w := run_typeAssert_hasB Tryz.underlying270 (by kernel_rfl) v x w
theorem m_unwrap (a : Addr) (w : World) : (Go.method 691 82 (.pointer (some a)) "Unwrap").run Tryz.prog w = .ok (440, .pointer (some a)) w := by kernel_rfl

set_option maxHeartbeats 4000000 in
set_option maxRecDepth 100000 in
theorem is_hit (b : Nat) (y : Int) (w : World) (h1 : w.cell? ⟨b, 1, none⟩ = some (.int .i64 y)) :
    Calls Tryz.prog 35 #[.iface 82 (.pointer (some ⟨b, 0, none⟩)), .iface 79 (.int .i64 y)] w fun ev w' => ev = .returned (.bool true) ∧ w = w' := by
  have hto := @run_callFunc_extern Tryz.prog 78 _ ReflectliteType.typeOf Tryz.func78 (by kernel_rfl) (by kernel_rfl) (by kernel_rfl) (by kernel_rfl)
  have hcm := @run_callFunc_extern Tryz.prog 448 _ (ReflectliteType.method fun t => do Rtype.noPackHeld "Comparable" t; pure (.bool (← typeInfo t).comparable)) Tryz.func448 (by kernel_rfl) (by kernel_rfl) (by kernel_rfl) (by kernel_rfl)
  have f1 := is_typeOf
  have f2 := is_comparable
  have f3 := m_comparable
  have f4 := eql_types
  have f5 := eql_int
  have f6 := is_noIs
  have f7 := is_unwrap
  have f8 := m_unwrap
  go_enter Tryz.func35, Tryz.ntmps35
  go_wp2
  refine wp_loop_rounds 2 ?_
  rw [rounds_succ]
  go_wp2
  rw [rounds_succ]
  go_wp2
  go_ret
  exact ⟨rfl, rfl⟩
open Am
theorem is_fn : CallOk Tryz.prog (fun f' args s k => cond (Nat.beq f' 35) (xIs 82 79 1 args s k) false) := is_ok (by kernel_rfl) fun b y w h => is_hit b y w h
end Go.Proofs.YtoijoamkbjpihaaGreatDoor
