/-
  ValueShared, worked out by the kernel.
-/
import Derived.Test.YtnkcibcodabkiaaGreatDoorDC1
import Derived.Test.YtnkcibcodabkiaaGreatDoorDC2
import Derived.Test.YtnkcibcodabkiaaGreatDoorDC3
import Derived.Test.YtnkcibcodabkiaaGreatDoorDC4
import Derived.Test.YtnkcibcodabkiaaGreatDoorDC5
import Derived.Test.YtnkcibcodabkiaaGreatDoorDC6
import Derived.Test.YtnkcibcodabkiaaGreatDoorDC7
import Derived.Test.YtnkcibcodabkiaaGreatDoorDC8
import Derived.Test.YtnkcibcodabkiaaGreatDoorDC9
import Derived.Test.YtnkcibcodabkiaaGreatDoorDC10
import Derived.Test.YtnkcibcodabkiaaGreatDoorDC11
import Derived.Test.YtnkcibcodabkiaaGreatDoorDC12
import Derived.Test.YtnkcibcodabkiaaGreatDoorDC13
import Derived.Test.YtnkcibcodabkiaaGreatDoorDC14
import Derived.Test.YtnkcibcodabkiaaGreatDoorDC15
import Derived.Test.YtnkcibcodabkiaaGreatDoorDC16
import Derived.Test.YtnkcibcodabkiaaGreatDoorDC17
namespace Go.Proofs.YtnkcibcodabkiaaGreatDoor.D
open Go Am
theorem k0 : ∀ I ∈ l0, InstOk Tryz.prog I := insts_nil _
theorem k1 : ∀ I ∈ l1, InstOk Tryz.prog I := insts_cons (inst_ok (by kernel_rfl) xts_ok (extI_ok exts3_ok k0) (of_toB e1)) k0
theorem k2 : ∀ I ∈ l2, InstOk Tryz.prog I := insts_cons (inst_ok (by kernel_rfl) xts_ok (extI_ok exts3_ok k1) (of_toB e2)) k1
theorem k3 : ∀ I ∈ l3, InstOk Tryz.prog I := insts_cons (inst_ok (by kernel_rfl) xts_ok (extI_ok exts3_ok k2) (of_toB e3)) k2
theorem k4 : ∀ I ∈ l4, InstOk Tryz.prog I := insts_cons (inst_ok (by kernel_rfl) xts_ok (extI_ok exts3_ok k3) (of_toB e4)) k3
theorem k5 : ∀ I ∈ l5, InstOk Tryz.prog I := insts_cons (inst_ok (by kernel_rfl) xts_ok (extI_ok exts3_ok k4) (of_toB e5)) k4
theorem k6 : ∀ I ∈ l6, InstOk Tryz.prog I := insts_cons (inst_ok (by kernel_rfl) xts_ok (extI_ok exts3_ok k5) (of_toB e6)) k5
theorem k7 : ∀ I ∈ l7, InstOk Tryz.prog I := insts_cons (inst_ok (by kernel_rfl) xts_ok (extI_ok exts3_ok k6) (of_toB e7)) k6
theorem k8 : ∀ I ∈ l8, InstOk Tryz.prog I := insts_cons (inst_ok (by kernel_rfl) xts_ok (extI_ok exts3_ok k7) (of_toB e8)) k7
theorem k9 : ∀ I ∈ l9, InstOk Tryz.prog I := insts_cons (inst_ok (by kernel_rfl) xts_ok (extI_ok exts3_ok k8) (of_toB e9)) k8
theorem k10 : ∀ I ∈ l10, InstOk Tryz.prog I := insts_cons (inst_ok (by kernel_rfl) xts_ok (extI_ok exts3_ok k9) (of_toB e10)) k9
theorem k11 : ∀ I ∈ l11, InstOk Tryz.prog I := insts_cons (inst_ok (by kernel_rfl) xts_ok (extI_ok exts3_ok k10) (of_toB e11)) k10
theorem k12 : ∀ I ∈ l12, InstOk Tryz.prog I := insts_cons (inst_ok (by kernel_rfl) xts_ok (extI_ok exts3_ok k11) (of_toB e12)) k11
theorem k13 : ∀ I ∈ l13, InstOk Tryz.prog I := insts_cons (inst_ok (by kernel_rfl) xts_ok (extI_ok exts3_ok k12) (of_toB e13)) k12
theorem k14 : ∀ I ∈ l14, InstOk Tryz.prog I := insts_cons (inst_ok (by kernel_rfl) xts_ok (extI_ok exts3_ok k13) (of_toB e14)) k13
theorem k15 : ∀ I ∈ l15, InstOk Tryz.prog I := insts_cons (inst_ok (by kernel_rfl) xts_ok (extI_ok exts3_ok k14) (of_toB e15)) k14
theorem k16 : ∀ I ∈ l16, InstOk Tryz.prog I := insts_cons (inst_ok (by kernel_rfl) xts_ok (extI_ok exts3_ok k15) (of_toB e16)) k15
theorem k17 : ∀ I ∈ l17, InstOk Tryz.prog I := insts_cons (inst_ok (by kernel_rfl) xts_ok (extI_ok exts3_ok k16) (of_toB e17)) k16
theorem k18 : ∀ I ∈ l18, InstOk Tryz.prog I := insts_cons (inst_ok (by kernel_rfl) xts_ok (extI_ok exts3_ok k17) (of_toB e18)) k17
theorem k19 : ∀ I ∈ l19, InstOk Tryz.prog I := insts_cons (inst_ok (by kernel_rfl) xts_ok (extI_ok exts3_ok k18) (of_toB e19)) k18
theorem k20 : ∀ I ∈ l20, InstOk Tryz.prog I := insts_cons (inst_ok (by kernel_rfl) xts_ok (extI_ok exts3_ok k19) (of_toB e20)) k19
theorem k21 : ∀ I ∈ l21, InstOk Tryz.prog I := insts_cons (inst_ok (by kernel_rfl) xts_ok (extI_ok exts3_ok k20) (of_toB e21)) k20
theorem k22 : ∀ I ∈ l22, InstOk Tryz.prog I := insts_cons (inst_ok (by kernel_rfl) xts_ok (extI_ok exts3_ok k21) (of_toB e22)) k21
theorem k23 : ∀ I ∈ l23, InstOk Tryz.prog I := insts_cons (inst_ok (by kernel_rfl) xts_ok (extI_ok exts3_ok k22) (of_toB e23)) k22
theorem k24 : ∀ I ∈ l24, InstOk Tryz.prog I := insts_cons (inst_ok (by kernel_rfl) xts_ok (extI_ok exts3_ok k23) (of_toB e24)) k23
theorem k25 : ∀ I ∈ l25, InstOk Tryz.prog I := insts_cons (inst_ok (by kernel_rfl) xts_ok (extI_ok exts3_ok k24) (of_toB e25)) k24
theorem k26 : ∀ I ∈ l26, InstOk Tryz.prog I := insts_cons (inst_ok (by kernel_rfl) xts_ok (extI_ok exts3_ok k25) (of_toB e26)) k25
def extsT := extI exts3 l26
def hasT := hasI exts3 l26
theorem extsT_ok : ExtOk Tryz.prog extsT := extI_ok exts3_ok k26
set_option maxRecDepth 10000000
set_option maxHeartbeats 0
theorem evals : toB (evJ (envOf Tryz.prog extsT xts hasT) (drawJ (envOf Tryz.prog extsT xts hasT)) 1000 4 [anyI] nilSt isTrue) = true := by kernel_rfl
end Go.Proofs.YtnkcibcodabkiaaGreatDoor.D
