/-
  ValueRuns, worked out by the kernel.
-/
import Derived.Test.YtnkcibcodabkiaaGreatDoorRC1
import Derived.Test.YtnkcibcodabkiaaGreatDoorAmFi
namespace Go.Proofs.YtnkcibcodabkiaaGreatDoor
open Go Am
theorem k0 : ∀ I ∈ l0, InstOk Tryz.prog I := insts_nil _
theorem k1 : ∀ I ∈ l1, InstOk Tryz.prog I := insts_cons (inst_ok (by kernel_rfl) xts_ok (extI_ok exts_ok k0) (of_toB e1)) k0
theorem k2 : ∀ I ∈ l2, InstOk Tryz.prog I := insts_cons (inst_ok (by kernel_rfl) xts_ok (extI_ok exts_ok k1) (of_toB e2)) k1
theorem k3 : ∀ I ∈ l3, InstOk Tryz.prog I := insts_cons (inst_ok (by kernel_rfl) xts_ok (extI_ok exts_ok k2) (of_toB e3)) k2
theorem k4 : ∀ I ∈ l4, InstOk Tryz.prog I := insts_cons (inst_ok (by kernel_rfl) xts_ok (extI_ok exts_ok k3) (of_toB e4)) k3
theorem k5 : ∀ I ∈ l5, InstOk Tryz.prog I := insts_cons (inst_ok (by kernel_rfl) xts_ok (extI_ok exts_ok k4) (of_toB e5)) k4
theorem k6 : ∀ I ∈ l6, InstOk Tryz.prog I := insts_cons (inst_ok (by kernel_rfl) xts_ok (extI_ok exts_ok k5) (of_toB e6)) k5
theorem k7 : ∀ I ∈ l7, InstOk Tryz.prog I := insts_cons (inst_ok (by kernel_rfl) xts_ok (extI_ok exts_ok k6) (of_toB e7)) k6
theorem k8 : ∀ I ∈ l8, InstOk Tryz.prog I := insts_cons (inst_ok (by kernel_rfl) xts_ok (extI_ok exts_ok k7) (of_toB e8)) k7
theorem k9 : ∀ I ∈ l9, InstOk Tryz.prog I := insts_cons (inst_ok (by kernel_rfl) xts_ok (extI_ok exts_ok k8) (of_toB e9)) k8
theorem k10 : ∀ I ∈ l10, InstOk Tryz.prog I := insts_cons (inst_ok (by kernel_rfl) xts_ok (extI_ok exts_ok k9) (of_toB e10)) k9
theorem k11 : ∀ I ∈ l11, InstOk Tryz.prog I := insts_cons (inst_ok (by kernel_rfl) xts_ok (extI_ok exts_ok k10) (of_toB e11)) k10
theorem k12 : ∀ I ∈ l12, InstOk Tryz.prog I := insts_cons (inst_ok (by kernel_rfl) xts_ok (extI_ok exts_ok k11) (of_toB e12)) k11
theorem k13 : ∀ I ∈ l13, InstOk Tryz.prog I := insts_cons (inst_ok (by kernel_rfl) xts_ok (extI_ok exts_ok k12) (of_toB e13)) k12
theorem k14 : ∀ I ∈ l14, InstOk Tryz.prog I := insts_cons (inst_ok (by kernel_rfl) xts_ok (extI_ok exts_ok k13) (of_toB e14)) k13
theorem k15 : ∀ I ∈ l15, InstOk Tryz.prog I := insts_cons (inst_ok (by kernel_rfl) xts_ok (extI_ok exts_ok k14) (of_toB e15)) k14
theorem k16 : ∀ I ∈ l16, InstOk Tryz.prog I := insts_cons (inst_ok (by kernel_rfl) xts_ok (extI_ok exts_ok k15) (of_toB e16)) k15
theorem k17 : ∀ I ∈ l17, InstOk Tryz.prog I := insts_cons (inst_ok (by kernel_rfl) xts_ok (extI_ok exts_ok k16) (of_toB e17)) k16
def extsT := extI exts l17
def hasT := hasI exts l17
theorem extsT_ok : ExtOk Tryz.prog extsT := extI_ok exts_ok k17
set_option maxRecDepth 10000000
set_option maxHeartbeats 0
def slots : Sl := ⟨28, 29, 176, 177, 178, 179, 182, 183, 184, 180, 181⟩
def place : List Bool := [true, true, true, true, true, true, true, true, true, true, true, true, true, true, true, true, true, true, true, true, false, true]
theorem evals : toB (topP (envOf Tryz.prog extsT xts hasT) 1000 3 (fillA slots (.int .u8 97)) place) = true := by kernel_rfl
end Go.Proofs.YtnkcibcodabkiaaGreatDoor
