/-
  InterpShort, worked out by the kernel.
-/
import Derived.Test.YtcfekhcdadldmaaGreatDoorSC1
import Derived.Test.YtcfekhcdadldmaaGreatDoorSC2
import Derived.Test.YtcfekhcdadldmaaGreatDoorSC3
import Derived.Test.YtcfekhcdadldmaaGreatDoorSC4
namespace Go.Proofs.YtcfekhcdadldmaaGreatDoor.S
open Go Am
theorem k0 : ∀ I ∈ l0, InstOk Tryz.prog I := insts_nil _
theorem k1 : ∀ I ∈ l1, InstOk Tryz.prog I := insts_cons (inst_ok (by kernel_rfl) xts_ok (extI_ok exts2_ok k0) (of_toB e1)) k0
theorem k2 : ∀ I ∈ l2, InstOk Tryz.prog I := insts_cons (inst_ok (by kernel_rfl) xts_ok (extI_ok exts2_ok k1) (of_toB e2)) k1
theorem k3 : ∀ I ∈ l3, InstOk Tryz.prog I := insts_cons (inst_ok (by kernel_rfl) xts_ok (extI_ok exts2_ok k2) (of_toB e3)) k2
theorem k4 : ∀ I ∈ l4, InstOk Tryz.prog I := insts_cons (inst_ok (by kernel_rfl) xts_ok (extI_ok exts2_ok k3) (of_toB e4)) k3
theorem k5 : ∀ I ∈ l5, InstOk Tryz.prog I := insts_cons (inst_ok (by kernel_rfl) xts_ok (extI_ok exts2_ok k4) (of_toB e5)) k4
theorem k6 : ∀ I ∈ l6, InstOk Tryz.prog I := insts_cons (inst_ok (by kernel_rfl) xts_ok (extI_ok exts2_ok k5) (of_toB e6)) k5
theorem k7 : ∀ I ∈ l7, InstOk Tryz.prog I := insts_cons (inst_ok (by kernel_rfl) xts_ok (extI_ok exts2_ok k6) (of_toB e7)) k6
theorem k8 : ∀ I ∈ l8, InstOk Tryz.prog I := insts_cons (inst_ok (by kernel_rfl) xts_ok (extI_ok exts2_ok k7) (of_toB e8)) k7
theorem k9 : ∀ I ∈ l9, InstOk Tryz.prog I := insts_cons (inst_ok (by kernel_rfl) xts_ok (extI_ok exts2_ok k8) (of_toB e9)) k8
theorem k10 : ∀ I ∈ l10, InstOk Tryz.prog I := insts_cons (inst_ok (by kernel_rfl) xts_ok (extI_ok exts2_ok k9) (of_toB e10)) k9
theorem k11 : ∀ I ∈ l11, InstOk Tryz.prog I := insts_cons (inst_ok (by kernel_rfl) xts_ok (extI_ok exts2_ok k10) (of_toB e11)) k10
theorem k12 : ∀ I ∈ l12, InstOk Tryz.prog I := insts_cons (inst_ok (by kernel_rfl) xts_ok (extI_ok exts2_ok k11) (of_toB e12)) k11
theorem k13 : ∀ I ∈ l13, InstOk Tryz.prog I := insts_cons (inst_ok (by kernel_rfl) xts_ok (extI_ok exts2_ok k12) (of_toB e13)) k12
theorem k14 : ∀ I ∈ l14, InstOk Tryz.prog I := insts_cons (inst_ok (by kernel_rfl) xts_ok (extI_ok exts2_ok k13) (of_toB e14)) k13
theorem k15 : ∀ I ∈ l15, InstOk Tryz.prog I := insts_cons (inst_ok (by kernel_rfl) xts_ok (extI_ok exts2_ok k14) (of_toB e15)) k14
theorem k16 : ∀ I ∈ l16, InstOk Tryz.prog I := insts_cons (inst_ok (by kernel_rfl) xts_ok (extI_ok exts2_ok k15) (of_toB e16)) k15
theorem k17 : ∀ I ∈ l17, InstOk Tryz.prog I := insts_cons (inst_ok (by kernel_rfl) xts_ok (extI_ok exts2_ok k16) (of_toB e17)) k16
theorem k18 : ∀ I ∈ l18, InstOk Tryz.prog I := insts_cons (inst_ok (by kernel_rfl) xts_ok (extI_ok exts2_ok k17) (of_toB e18)) k17
theorem k19 : ∀ I ∈ l19, InstOk Tryz.prog I := insts_cons (inst_ok (by kernel_rfl) xts_ok (extI_ok exts2_ok k18) (of_toB e19)) k18
theorem k20 : ∀ I ∈ l20, InstOk Tryz.prog I := insts_cons (inst_ok (by kernel_rfl) xts_ok (extI_ok exts2_ok k19) (of_toB e20)) k19
theorem k21 : ∀ I ∈ l21, InstOk Tryz.prog I := insts_cons (inst_ok (by kernel_rfl) xts_ok (extI_ok exts2_ok k20) (of_toB e21)) k20
theorem k22 : ∀ I ∈ l22, InstOk Tryz.prog I := insts_cons (inst_ok (by kernel_rfl) xts_ok (extI_ok exts2_ok k21) (of_toB e22)) k21
theorem k23 : ∀ I ∈ l23, InstOk Tryz.prog I := insts_cons (inst_ok (by kernel_rfl) xts_ok (extI_ok exts2_ok k22) (of_toB e23)) k22
theorem k24 : ∀ I ∈ l24, InstOk Tryz.prog I := insts_cons (inst_ok (by kernel_rfl) xts_ok (extI_ok exts2_ok k23) (of_toB e24)) k23
theorem k25 : ∀ I ∈ l25, InstOk Tryz.prog I := insts_cons (inst_ok (by kernel_rfl) xts_ok (extI_ok exts2_ok k24) (of_toB e25)) k24
theorem k26 : ∀ I ∈ l26, InstOk Tryz.prog I := insts_cons (inst_ok (by kernel_rfl) xts_ok (extI_ok exts2_ok k25) (of_toB e26)) k25
theorem k27 : ∀ I ∈ l27, InstOk Tryz.prog I := insts_cons (inst_ok (by kernel_rfl) xts_ok (extI_ok exts2_ok k26) (of_toB e27)) k26
theorem k28 : ∀ I ∈ l28, InstOk Tryz.prog I := insts_cons (inst_ok (by kernel_rfl) xts_ok (extI_ok exts2_ok k27) (of_toB e28)) k27
theorem k29 : ∀ I ∈ l29, InstOk Tryz.prog I := insts_cons (inst_ok (by kernel_rfl) xts_ok (extI_ok exts2_ok k28) (of_toB e29)) k28
theorem k30 : ∀ I ∈ l30, InstOk Tryz.prog I := insts_cons (inst_ok (by kernel_rfl) xts_ok (extI_ok exts2_ok k29) (of_toB e30)) k29
theorem k31 : ∀ I ∈ l31, InstOk Tryz.prog I := insts_cons (inst_ok (by kernel_rfl) xts_ok (extI_ok exts2_ok k30) (of_toB e31)) k30
theorem k32 : ∀ I ∈ l32, InstOk Tryz.prog I := insts_cons (inst_ok (by kernel_rfl) xts_ok (extI_ok exts2_ok k31) (of_toB e32)) k31
def extsT := extI exts2 l32
def hasT := hasI exts2 l32
theorem extsT_ok : ExtOk Tryz.prog extsT := extI_ok exts2_ok k32
set_option maxRecDepth 10000000
set_option maxHeartbeats 0
theorem evals0 : toB (evJ (envOf Tryz.prog extsT xts hasT) (drawJ (envOf Tryz.prog extsT xts hasT)) 1000 4 [.bool true, .bool true] nilSt isTrue) = true := by kernel_rfl
theorem evals1 : toB (evJ (envOf Tryz.prog extsT xts hasT) (drawJ (envOf Tryz.prog extsT xts hasT)) 1000 4 [.bool true, .bool false] nilSt isTrue) = true := by kernel_rfl
theorem evals2 : toB (evJ (envOf Tryz.prog extsT xts hasT) (drawJ (envOf Tryz.prog extsT xts hasT)) 1000 4 [.bool false, .bool true] nilSt isTrue) = true := by kernel_rfl
theorem evals3 : toB (evJ (envOf Tryz.prog extsT xts hasT) (drawJ (envOf Tryz.prog extsT xts hasT)) 1000 4 [.bool false, .bool false] nilSt isTrue) = true := by kernel_rfl
end Go.Proofs.YtcfekhcdadldmaaGreatDoor.S
