/-
  errors.As, the rest.
-/
import Derived.Test.YthplgkkailieoaaGreatDoorAs
namespace Go.Proofs.YthplgkkailieoaaGreatDoor
open Go Go.RowKit Go.Extern.Stop Go.Stop Go.Extern

theorem as_set (ta b e : Addr) (old : Value) (W : World) (hb : W.cell? b = some (.pointer (some e))) (ht : W.cell? ta = some old) (hf : W.frozen? ta = false) :
    (ReflectliteValue.set #[.agg #[hdl 64, .pointer (some ta), .int .u64 406], .agg #[hdl 64, .pointer (some b), .int .u64 150]]).run Tryz.prog W
      = .ok (.tuple #[]) (W.setCell ta (.pointer (some e))) := by
  rw [show ReflectliteValue.set #[.agg #[hdl 64, .pointer (some ta), .int .u64 406], .agg #[hdl 64, .pointer (some b), .int .u64 150]] = Bind.bind (ReflectliteValue.parts (.agg #[hdl 64, .pointer (some ta), .int .u64 406])) (fun _r => Bind.bind (ReflectliteValue.parts (.agg #[hdl 64, .pointer (some b), .int .u64 150])) _) from rfl]
  simp only [Sem.run_bind, as_partsA, as_partsE, Result.andThen]
  simp [ReflectliteValue.flagAddr, loadVar, isAgg, underlying, Tryz.underlying64, hb, Result.andThen, as_direct, storeVar, Value.cells, storeCells, Addr.add]
  rw [run_store Tryz.prog W ta _ _ (by rfl)]
  simp [ht, hf]
end Go.Proofs.YthplgkkailieoaaGreatDoor
