/-
  InterpRuns, worked out by the kernel.
-/
import Derived.Test.YtcfekhcdadldmaaGreatDoorRC1
import Derived.Test.YtcfekhcdadldmaaGreatDoorRC2
import Derived.Test.YtcfekhcdadldmaaGreatDoorRC3
import Derived.Test.YtcfekhcdadldmaaGreatDoorRC4
import Derived.Test.YtcfekhcdadldmaaGreatDoorRC5
import Derived.Test.YtcfekhcdadldmaaGreatDoorRC6
import Derived.Test.YtcfekhcdadldmaaGreatDoorRC7
import Derived.Test.YtcfekhcdadldmaaGreatDoorRC8
namespace Go.Proofs.YtcfekhcdadldmaaGreatDoor
open Go Am
theorem k0 : ∀ I ∈ l0, InstOk Tryz.prog I := insts_nil _
theorem k1 : ∀ I ∈ l1, InstOk Tryz.prog I := insts_cons (inst_ok (by kernel_rfl) xts_ok (extI_ok exts_ok k0) (of_toB e1)) k0
theorem k2 : ∀ I ∈ l2, InstOk Tryz.prog I := insts_cons (inst_ok (by kernel_rfl) xts_ok (extI_ok exts_ok k1) (of_toB e2)) k1
theorem k3 : ∀ I ∈ l3, InstOk Tryz.prog I := insts_cons (inst_ok (by kernel_rfl) xts_ok (extI_ok exts_ok k2) (of_toB e3)) k2
theorem k4 : ∀ I ∈ l4, InstOk Tryz.prog I := insts_cons (inst_ok (by kernel_rfl) xts_ok (extI_ok exts_ok k3) (of_toB e4)) k3
theorem k5 : ∀ I ∈ l5, InstOk Tryz.prog I := insts_cons (inst_ok (by kernel_rfl) xts_ok (extI_ok exts_ok k4) (of_toB e5)) k4
theorem k6 : ∀ I ∈ l6, InstOk Tryz.prog I := insts_cons (inst_ok (by kernel_rfl) xts_ok (extI_ok exts_ok k5) (of_toB e6)) k5
theorem k7 : ∀ I ∈ l7, InstOk Tryz.prog I := insts_cons (inst_ok (by kernel_rfl) xts_ok (extI_ok exts_ok k6) (of_toB e7)) k6
theorem k8 : ∀ I ∈ l8, InstOk Tryz.prog I := insts_cons (inst_ok (by kernel_rfl) xts_ok (extI_ok exts_ok k7) (of_toB e8)) k7
theorem k9 : ∀ I ∈ l9, InstOk Tryz.prog I := insts_cons (inst_ok (by kernel_rfl) xts_ok (extI_ok exts_ok k8) (of_toB e9)) k8
theorem k10 : ∀ I ∈ l10, InstOk Tryz.prog I := insts_cons (inst_ok (by kernel_rfl) xts_ok (extI_ok exts_ok k9) (of_toB e10)) k9
theorem k11 : ∀ I ∈ l11, InstOk Tryz.prog I := insts_cons (inst_ok (by kernel_rfl) xts_ok (extI_ok exts_ok k10) (of_toB e11)) k10
theorem k12 : ∀ I ∈ l12, InstOk Tryz.prog I := insts_cons (inst_ok (by kernel_rfl) xts_ok (extI_ok exts_ok k11) (of_toB e12)) k11
theorem k13 : ∀ I ∈ l13, InstOk Tryz.prog I := insts_cons (inst_ok (by kernel_rfl) xts_ok (extI_ok exts_ok k12) (of_toB e13)) k12
theorem k14 : ∀ I ∈ l14, InstOk Tryz.prog I := insts_cons (inst_ok (by kernel_rfl) xts_ok (extI_ok exts_ok k13) (of_toB e14)) k13
theorem k15 : ∀ I ∈ l15, InstOk Tryz.prog I := insts_cons (inst_ok (by kernel_rfl) xts_ok (extI_ok exts_ok k14) (of_toB e15)) k14
theorem k16 : ∀ I ∈ l16, InstOk Tryz.prog I := insts_cons (inst_ok (by kernel_rfl) xts_ok (extI_ok exts_ok k15) (of_toB e16)) k15
theorem k17 : ∀ I ∈ l17, InstOk Tryz.prog I := insts_cons (inst_ok (by kernel_rfl) xts_ok (extI_ok exts_ok k16) (of_toB e17)) k16
theorem k18 : ∀ I ∈ l18, InstOk Tryz.prog I := insts_cons (inst_ok (by kernel_rfl) xts_ok (extI_ok exts_ok k17) (of_toB e18)) k17
theorem k19 : ∀ I ∈ l19, InstOk Tryz.prog I := insts_cons (inst_ok (by kernel_rfl) xts_ok (extI_ok exts_ok k18) (of_toB e19)) k18
theorem k20 : ∀ I ∈ l20, InstOk Tryz.prog I := insts_cons (inst_ok (by kernel_rfl) xts_ok (extI_ok exts_ok k19) (of_toB e20)) k19
theorem k21 : ∀ I ∈ l21, InstOk Tryz.prog I := insts_cons (inst_ok (by kernel_rfl) xts_ok (extI_ok exts_ok k20) (of_toB e21)) k20
theorem k22 : ∀ I ∈ l22, InstOk Tryz.prog I := insts_cons (inst_ok (by kernel_rfl) xts_ok (extI_ok exts_ok k21) (of_toB e22)) k21
theorem k23 : ∀ I ∈ l23, InstOk Tryz.prog I := insts_cons (inst_ok (by kernel_rfl) xts_ok (extI_ok exts_ok k22) (of_toB e23)) k22
theorem k24 : ∀ I ∈ l24, InstOk Tryz.prog I := insts_cons (inst_ok (by kernel_rfl) xts_ok (extI_ok exts_ok k23) (of_toB e24)) k23
theorem k25 : ∀ I ∈ l25, InstOk Tryz.prog I := insts_cons (inst_ok (by kernel_rfl) xts_ok (extI_ok exts_ok k24) (of_toB e25)) k24
theorem k26 : ∀ I ∈ l26, InstOk Tryz.prog I := insts_cons (inst_ok (by kernel_rfl) xts_ok (extI_ok exts_ok k25) (of_toB e26)) k25
theorem k27 : ∀ I ∈ l27, InstOk Tryz.prog I := insts_cons (inst_ok (by kernel_rfl) xts_ok (extI_ok exts_ok k26) (of_toB e27)) k26
theorem k28 : ∀ I ∈ l28, InstOk Tryz.prog I := insts_cons (inst_ok (by kernel_rfl) xts_ok (extI_ok exts_ok k27) (of_toB e28)) k27
theorem k29 : ∀ I ∈ l29, InstOk Tryz.prog I := insts_cons (inst_ok (by kernel_rfl) xts_ok (extI_ok exts_ok k28) (of_toB e29)) k28
theorem k30 : ∀ I ∈ l30, InstOk Tryz.prog I := insts_cons (inst_ok (by kernel_rfl) xts_ok (extI_ok exts_ok k29) (of_toB e30)) k29
theorem k31 : ∀ I ∈ l31, InstOk Tryz.prog I := insts_cons (inst_ok (by kernel_rfl) xts_ok (extI_ok exts_ok k30) (of_toB e31)) k30
theorem k32 : ∀ I ∈ l32, InstOk Tryz.prog I := insts_cons (inst_ok (by kernel_rfl) xts_ok (extI_ok exts_ok k31) (of_toB e32)) k31
theorem k33 : ∀ I ∈ l33, InstOk Tryz.prog I := insts_cons (inst_ok (by kernel_rfl) xts_ok (extI_ok exts_ok k32) (of_toB e33)) k32
theorem k34 : ∀ I ∈ l34, InstOk Tryz.prog I := insts_cons (inst_ok (by kernel_rfl) xts_ok (extI_ok exts_ok k33) (of_toB e34)) k33
theorem k35 : ∀ I ∈ l35, InstOk Tryz.prog I := insts_cons (inst_ok (by kernel_rfl) xts_ok (extI_ok exts_ok k34) (of_toB e35)) k34
theorem k36 : ∀ I ∈ l36, InstOk Tryz.prog I := insts_cons (inst_ok (by kernel_rfl) xts_ok (extI_ok exts_ok k35) (of_toB e36)) k35
theorem k37 : ∀ I ∈ l37, InstOk Tryz.prog I := insts_cons (inst_ok (by kernel_rfl) xts_ok (extI_ok exts_ok k36) (of_toB e37)) k36
theorem k38 : ∀ I ∈ l38, InstOk Tryz.prog I := insts_cons (inst_ok (by kernel_rfl) xts_ok (extI_ok exts_ok k37) (of_toB e38)) k37
theorem k39 : ∀ I ∈ l39, InstOk Tryz.prog I := insts_cons (inst_ok (by kernel_rfl) xts_ok (extI_ok exts_ok k38) (of_toB e39)) k38
theorem k40 : ∀ I ∈ l40, InstOk Tryz.prog I := insts_cons (inst_ok (by kernel_rfl) xts_ok (extI_ok exts_ok k39) (of_toB e40)) k39
theorem k41 : ∀ I ∈ l41, InstOk Tryz.prog I := insts_cons (inst_ok (by kernel_rfl) xts_ok (extI_ok exts_ok k40) (of_toB e41)) k40
theorem k42 : ∀ I ∈ l42, InstOk Tryz.prog I := insts_cons (inst_ok (by kernel_rfl) xts_ok (extI_ok exts_ok k41) (of_toB e42)) k41
theorem k43 : ∀ I ∈ l43, InstOk Tryz.prog I := insts_cons (inst_ok (by kernel_rfl) xts_ok (extI_ok exts_ok k42) (of_toB e43)) k42
theorem k44 : ∀ I ∈ l44, InstOk Tryz.prog I := insts_cons (inst_ok (by kernel_rfl) xts_ok (extI_ok exts_ok k43) (of_toB e44)) k43
theorem k45 : ∀ I ∈ l45, InstOk Tryz.prog I := insts_cons (inst_ok (by kernel_rfl) xts_ok (extI_ok exts_ok k44) (of_toB e45)) k44
theorem k46 : ∀ I ∈ l46, InstOk Tryz.prog I := insts_cons (inst_ok (by kernel_rfl) xts_ok (extI_ok exts_ok k45) (of_toB e46)) k45
theorem k47 : ∀ I ∈ l47, InstOk Tryz.prog I := insts_cons (inst_ok (by kernel_rfl) xts_ok (extI_ok exts_ok k46) (of_toB e47)) k46
theorem k48 : ∀ I ∈ l48, InstOk Tryz.prog I := insts_cons (inst_ok (by kernel_rfl) xts_ok (extI_ok exts_ok k47) (of_toB e48)) k47
theorem k49 : ∀ I ∈ l49, InstOk Tryz.prog I := insts_cons (inst_ok (by kernel_rfl) xts_ok (extI_ok exts_ok k48) (of_toB e49)) k48
theorem k50 : ∀ I ∈ l50, InstOk Tryz.prog I := insts_cons (inst_ok (by kernel_rfl) xts_ok (extI_ok exts_ok k49) (of_toB e50)) k49
theorem k51 : ∀ I ∈ l51, InstOk Tryz.prog I := insts_cons (inst_ok (by kernel_rfl) xts_ok (extI_ok exts_ok k50) (of_toB e51)) k50
theorem k52 : ∀ I ∈ l52, InstOk Tryz.prog I := insts_cons (inst_ok (by kernel_rfl) xts_ok (extI_ok exts_ok k51) (of_toB e52)) k51
theorem k53 : ∀ I ∈ l53, InstOk Tryz.prog I := insts_cons (inst_ok (by kernel_rfl) xts_ok (extI_ok exts_ok k52) (of_toB e53)) k52
theorem k54 : ∀ I ∈ l54, InstOk Tryz.prog I := insts_cons (inst_ok (by kernel_rfl) xts_ok (extI_ok exts_ok k53) (of_toB e54)) k53
theorem k55 : ∀ I ∈ l55, InstOk Tryz.prog I := insts_cons (inst_ok (by kernel_rfl) xts_ok (extI_ok exts_ok k54) (of_toB e55)) k54
theorem k56 : ∀ I ∈ l56, InstOk Tryz.prog I := insts_cons (inst_ok (by kernel_rfl) xts_ok (extI_ok exts_ok k55) (of_toB e56)) k55
theorem k57 : ∀ I ∈ l57, InstOk Tryz.prog I := insts_cons (inst_ok (by kernel_rfl) xts_ok (extI_ok exts_ok k56) (of_toB e57)) k56
def extsT := extI exts l57
def hasT := hasI exts l57
theorem extsT_ok : ExtOk Tryz.prog extsT := extI_ok exts_ok k57
set_option maxRecDepth 10000000
set_option maxHeartbeats 0
theorem evals : toB (evJ (envOf Tryz.prog extsT xts hasT) (drawJ (envOf Tryz.prog extsT xts hasT)) 1000 3 [] nilSt isTrue) = true := by kernel_rfl
end Go.Proofs.YtcfekhcdadldmaaGreatDoor
