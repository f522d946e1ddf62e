/-
  CanonRuns, worked out by the kernel.
-/
import Derived.Test.YtpbfmhleeihhdaaGreatDoorRC1
import Derived.Test.YtpbfmhleeihhdaaGreatDoorRC2
namespace Go.Proofs.YtpbfmhleeihhdaaGreatDoor
open Go Am
theorem k0 : ∀ I ∈ l0, InstOk Tryz.prog I := insts_nil _
theorem k1 : ∀ I ∈ l1, InstOk Tryz.prog I := insts_cons (inst_ok (by kernel_rfl) xts_ok (extI_ok exts_ok k0) (of_toB e1)) k0
theorem k2 : ∀ I ∈ l2, InstOk Tryz.prog I := insts_cons (inst_ok (by kernel_rfl) xts_ok (extI_ok exts_ok k1) (of_toB e2)) k1
theorem k3 : ∀ I ∈ l3, InstOk Tryz.prog I := insts_cons (inst_ok (by kernel_rfl) xts_ok (extI_ok exts_ok k2) (of_toB e3)) k2
def extsT := extI exts l3
theorem extsT_ok : ExtOk Tryz.prog extsT := extI_ok exts_ok k3
set_option maxRecDepth 10000000
set_option maxHeartbeats 0
theorem evals : toB (evJ (envOf Tryz.prog extsT xts) (drawJ (envOf Tryz.prog extsT xts)) 1000 3 [] nilSt isTrue) = true := by kernel_rfl
end Go.Proofs.YtpbfmhleeihhdaaGreatDoor
