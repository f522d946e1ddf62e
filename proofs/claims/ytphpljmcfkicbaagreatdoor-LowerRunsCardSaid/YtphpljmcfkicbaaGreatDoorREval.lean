/-
  LowerRuns, worked out by the kernel.
-/
import Derived.Test.YtphpljmcfkicbaaGreatDoorRC1
import Derived.Test.YtphpljmcfkicbaaGreatDoorRC2
namespace Go.Proofs.YtphpljmcfkicbaaGreatDoor
open Go Am
theorem k0 : ∀ I ∈ l0, InstOk Tryz.prog I := insts_nil _
theorem k1 : ∀ I ∈ l1, InstOk Tryz.prog I := insts_cons (inst_ok (by kernel_rfl) xts_ok (extI_ok exts_ok k0) (of_toB e1)) k0
theorem k2 : ∀ I ∈ l2, InstOk Tryz.prog I := insts_cons (inst_ok (by kernel_rfl) xts_ok (extI_ok exts_ok k1) (of_toB e2)) k1
theorem k3 : ∀ I ∈ l3, InstOk Tryz.prog I := insts_cons (inst_ok (by kernel_rfl) xts_ok (extI_ok exts_ok k2) (of_toB e3)) k2
theorem k4 : ∀ I ∈ l4, InstOk Tryz.prog I := insts_cons (inst_ok (by kernel_rfl) xts_ok (extI_ok exts_ok k3) (of_toB e4)) k3
theorem k5 : ∀ I ∈ l5, InstOk Tryz.prog I := insts_cons (inst_ok (by kernel_rfl) xts_ok (extI_ok exts_ok k4) (of_toB e5)) k4
theorem k6 : ∀ I ∈ l6, InstOk Tryz.prog I := insts_cons (inst_ok (by kernel_rfl) xts_ok (extI_ok exts_ok k5) (of_toB e6)) k5
theorem k7 : ∀ I ∈ l7, InstOk Tryz.prog I := insts_cons (inst_ok (by kernel_rfl) xts_ok (extI_ok exts_ok k6) (of_toB e7)) k6
theorem k8 : ∀ I ∈ l8, InstOk Tryz.prog I := insts_cons (inst_ok (by kernel_rfl) xts_ok (extI_ok exts_ok k7) (of_toB e8)) k7
theorem k9 : ∀ I ∈ l9, InstOk Tryz.prog I := insts_cons (inst_ok (by kernel_rfl) xts_ok (extI_ok exts_ok k8) (of_toB e9)) k8
theorem k10 : ∀ I ∈ l10, InstOk Tryz.prog I := insts_cons (inst_ok (by kernel_rfl) xts_ok (extI_ok exts_ok k9) (of_toB e10)) k9
def extsT := extI exts l10
def hasT := hasI exts l10
theorem extsT_ok : ExtOk Tryz.prog extsT := extI_ok exts_ok k10
set_option maxRecDepth 10000000
set_option maxHeartbeats 0
theorem evals : toB (evJ (envOf Tryz.prog extsT xts hasT) (drawJ (envOf Tryz.prog extsT xts hasT)) 1000 3 [] nilSt isTrue) = true := by kernel_rfl
end Go.Proofs.YtphpljmcfkicbaaGreatDoor
