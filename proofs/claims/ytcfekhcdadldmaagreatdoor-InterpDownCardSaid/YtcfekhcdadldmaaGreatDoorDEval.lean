/-
  InterpDown, worked out by the kernel.
-/
import Derived.Test.YtcfekhcdadldmaaGreatDoorDC1
import Derived.Test.YtcfekhcdadldmaaGreatDoorDC2
import Derived.Test.YtcfekhcdadldmaaGreatDoorDC3
import Derived.Test.YtcfekhcdadldmaaGreatDoorDC4
import Derived.Test.YtcfekhcdadldmaaGreatDoorDC5
import Derived.Test.YtcfekhcdadldmaaGreatDoorDC6
import Derived.Test.YtcfekhcdadldmaaGreatDoorDC7
import Derived.Test.YtcfekhcdadldmaaGreatDoorDC8
import Derived.Test.YtcfekhcdadldmaaGreatDoorDC9
import Derived.Test.YtcfekhcdadldmaaGreatDoorDC10
import Derived.Test.YtcfekhcdadldmaaGreatDoorDC11
import Derived.Test.YtcfekhcdadldmaaGreatDoorDC12
import Derived.Test.YtcfekhcdadldmaaGreatDoorDC13
import Derived.Test.YtcfekhcdadldmaaGreatDoorDC14
import Derived.Test.YtcfekhcdadldmaaGreatDoorDC15
import Derived.Test.YtcfekhcdadldmaaGreatDoorDC16
import Derived.Test.YtcfekhcdadldmaaGreatDoorDC17
import Derived.Test.YtcfekhcdadldmaaGreatDoorDC18
namespace Go.Proofs.YtcfekhcdadldmaaGreatDoor.D
open Go Am
theorem k0 : ∀ I ∈ l0, InstOk Tryz.prog I := insts_nil _
theorem k1 : ∀ I ∈ l1, InstOk Tryz.prog I := insts_cons (inst_ok (by kernel_rfl) xts_ok (extI_ok exts3_ok k0) (of_toB e1)) k0
theorem k2 : ∀ I ∈ l2, InstOk Tryz.prog I := insts_cons (inst_ok (by kernel_rfl) xts_ok (extI_ok exts3_ok k1) (of_toB e2)) k1
theorem k3 : ∀ I ∈ l3, InstOk Tryz.prog I := insts_cons (inst_ok (by kernel_rfl) xts_ok (extI_ok exts3_ok k2) (of_toB e3)) k2
theorem k4 : ∀ I ∈ l4, InstOk Tryz.prog I := insts_cons (inst_ok (by kernel_rfl) xts_ok (extI_ok exts3_ok k3) (of_toB e4)) k3
theorem k5 : ∀ I ∈ l5, InstOk Tryz.prog I := insts_cons (inst_ok (by kernel_rfl) xts_ok (extI_ok exts3_ok k4) (of_toB e5)) k4
theorem k6 : ∀ I ∈ l6, InstOk Tryz.prog I := insts_cons (inst_ok (by kernel_rfl) xts_ok (extI_ok exts3_ok k5) (of_toB e6)) k5
theorem k7 : ∀ I ∈ l7, InstOk Tryz.prog I := insts_cons (inst_ok (by kernel_rfl) xts_ok (extI_ok exts3_ok k6) (of_toB e7)) k6
theorem k8 : ∀ I ∈ l8, InstOk Tryz.prog I := insts_cons (inst_ok (by kernel_rfl) xts_ok (extI_ok exts3_ok k7) (of_toB e8)) k7
theorem k9 : ∀ I ∈ l9, InstOk Tryz.prog I := insts_cons (inst_ok (by kernel_rfl) xts_ok (extI_ok exts3_ok k8) (of_toB e9)) k8
theorem k10 : ∀ I ∈ l10, InstOk Tryz.prog I := insts_cons (inst_ok (by kernel_rfl) xts_ok (extI_ok exts3_ok k9) (of_toB e10)) k9
theorem k11 : ∀ I ∈ l11, InstOk Tryz.prog I := insts_cons (inst_ok (by kernel_rfl) xts_ok (extI_ok exts3_ok k10) (of_toB e11)) k10
theorem k12 : ∀ I ∈ l12, InstOk Tryz.prog I := insts_cons (inst_ok (by kernel_rfl) xts_ok (extI_ok exts3_ok k11) (of_toB e12)) k11
theorem k13 : ∀ I ∈ l13, InstOk Tryz.prog I := insts_cons (inst_ok (by kernel_rfl) xts_ok (extI_ok exts3_ok k12) (of_toB e13)) k12
theorem k14 : ∀ I ∈ l14, InstOk Tryz.prog I := insts_cons (inst_ok (by kernel_rfl) xts_ok (extI_ok exts3_ok k13) (of_toB e14)) k13
theorem k15 : ∀ I ∈ l15, InstOk Tryz.prog I := insts_cons (inst_ok (by kernel_rfl) xts_ok (extI_ok exts3_ok k14) (of_toB e15)) k14
theorem k16 : ∀ I ∈ l16, InstOk Tryz.prog I := insts_cons (inst_ok (by kernel_rfl) xts_ok (extI_ok exts3_ok k15) (of_toB e16)) k15
theorem k17 : ∀ I ∈ l17, InstOk Tryz.prog I := insts_cons (inst_ok (by kernel_rfl) xts_ok (extI_ok exts3_ok k16) (of_toB e17)) k16
theorem k18 : ∀ I ∈ l18, InstOk Tryz.prog I := insts_cons (inst_ok (by kernel_rfl) xts_ok (extI_ok exts3_ok k17) (of_toB e18)) k17
theorem k19 : ∀ I ∈ l19, InstOk Tryz.prog I := insts_cons (inst_ok (by kernel_rfl) xts_ok (extI_ok exts3_ok k18) (of_toB e19)) k18
theorem k20 : ∀ I ∈ l20, InstOk Tryz.prog I := insts_cons (inst_ok (by kernel_rfl) xts_ok (extI_ok exts3_ok k19) (of_toB e20)) k19
theorem k21 : ∀ I ∈ l21, InstOk Tryz.prog I := insts_cons (inst_ok (by kernel_rfl) xts_ok (extI_ok exts3_ok k20) (of_toB e21)) k20
theorem k22 : ∀ I ∈ l22, InstOk Tryz.prog I := insts_cons (inst_ok (by kernel_rfl) xts_ok (extI_ok exts3_ok k21) (of_toB e22)) k21
theorem k23 : ∀ I ∈ l23, InstOk Tryz.prog I := insts_cons (inst_ok (by kernel_rfl) xts_ok (extI_ok exts3_ok k22) (of_toB e23)) k22
theorem k24 : ∀ I ∈ l24, InstOk Tryz.prog I := insts_cons (inst_ok (by kernel_rfl) xts_ok (extI_ok exts3_ok k23) (of_toB e24)) k23
theorem k25 : ∀ I ∈ l25, InstOk Tryz.prog I := insts_cons (inst_ok (by kernel_rfl) xts_ok (extI_ok exts3_ok k24) (of_toB e25)) k24
theorem k26 : ∀ I ∈ l26, InstOk Tryz.prog I := insts_cons (inst_ok (by kernel_rfl) xts_ok (extI_ok exts3_ok k25) (of_toB e26)) k25
theorem k27 : ∀ I ∈ l27, InstOk Tryz.prog I := insts_cons (inst_ok (by kernel_rfl) xts_ok (extI_ok exts3_ok k26) (of_toB e27)) k26
theorem k28 : ∀ I ∈ l28, InstOk Tryz.prog I := insts_cons (inst_ok (by kernel_rfl) xts_ok (extI_ok exts3_ok k27) (of_toB e28)) k27
theorem k29 : ∀ I ∈ l29, InstOk Tryz.prog I := insts_cons (inst_ok (by kernel_rfl) xts_ok (extI_ok exts3_ok k28) (of_toB e29)) k28
theorem k30 : ∀ I ∈ l30, InstOk Tryz.prog I := insts_cons (inst_ok (by kernel_rfl) xts_ok (extI_ok exts3_ok k29) (of_toB e30)) k29
theorem k31 : ∀ I ∈ l31, InstOk Tryz.prog I := insts_cons (inst_ok (by kernel_rfl) xts_ok (extI_ok exts3_ok k30) (of_toB e31)) k30
theorem k32 : ∀ I ∈ l32, InstOk Tryz.prog I := insts_cons (inst_ok (by kernel_rfl) xts_ok (extI_ok exts3_ok k31) (of_toB e32)) k31
theorem k33 : ∀ I ∈ l33, InstOk Tryz.prog I := insts_cons (inst_ok (by kernel_rfl) xts_ok (extI_ok exts3_ok k32) (of_toB e33)) k32
theorem k34 : ∀ I ∈ l34, InstOk Tryz.prog I := insts_cons (inst_ok (by kernel_rfl) xts_ok (extI_ok exts3_ok k33) (of_toB e34)) k33
theorem k35 : ∀ I ∈ l35, InstOk Tryz.prog I := insts_cons (inst_ok (by kernel_rfl) xts_ok (extI_ok exts3_ok k34) (of_toB e35)) k34
theorem k36 : ∀ I ∈ l36, InstOk Tryz.prog I := insts_cons (inst_ok (by kernel_rfl) xts_ok (extI_ok exts3_ok k35) (of_toB e36)) k35
theorem k37 : ∀ I ∈ l37, InstOk Tryz.prog I := insts_cons (inst_ok (by kernel_rfl) xts_ok (extI_ok exts3_ok k36) (of_toB e37)) k36
theorem k38 : ∀ I ∈ l38, InstOk Tryz.prog I := insts_cons (inst_ok (by kernel_rfl) xts_ok (extI_ok exts3_ok k37) (of_toB e38)) k37
theorem k39 : ∀ I ∈ l39, InstOk Tryz.prog I := insts_cons (inst_ok (by kernel_rfl) xts_ok (extI_ok exts3_ok k38) (of_toB e39)) k38
theorem k40 : ∀ I ∈ l40, InstOk Tryz.prog I := insts_cons (inst_ok (by kernel_rfl) xts_ok (extI_ok exts3_ok k39) (of_toB e40)) k39
theorem k41 : ∀ I ∈ l41, InstOk Tryz.prog I := insts_cons (inst_ok (by kernel_rfl) xts_ok (extI_ok exts3_ok k40) (of_toB e41)) k40
theorem k42 : ∀ I ∈ l42, InstOk Tryz.prog I := insts_cons (inst_ok (by kernel_rfl) xts_ok (extI_ok exts3_ok k41) (of_toB e42)) k41
theorem k43 : ∀ I ∈ l43, InstOk Tryz.prog I := insts_cons (inst_ok (by kernel_rfl) xts_ok (extI_ok exts3_ok k42) (of_toB e43)) k42
theorem k44 : ∀ I ∈ l44, InstOk Tryz.prog I := insts_cons (inst_ok (by kernel_rfl) xts_ok (extI_ok exts3_ok k43) (of_toB e44)) k43
theorem k45 : ∀ I ∈ l45, InstOk Tryz.prog I := insts_cons (inst_ok (by kernel_rfl) xts_ok (extI_ok exts3_ok k44) (of_toB e45)) k44
theorem k46 : ∀ I ∈ l46, InstOk Tryz.prog I := insts_cons (inst_ok (by kernel_rfl) xts_ok (extI_ok exts3_ok k45) (of_toB e46)) k45
theorem k47 : ∀ I ∈ l47, InstOk Tryz.prog I := insts_cons (inst_ok (by kernel_rfl) xts_ok (extI_ok exts3_ok k46) (of_toB e47)) k46
theorem k48 : ∀ I ∈ l48, InstOk Tryz.prog I := insts_cons (inst_ok (by kernel_rfl) xts_ok (extI_ok exts3_ok k47) (of_toB e48)) k47
theorem k49 : ∀ I ∈ l49, InstOk Tryz.prog I := insts_cons (inst_ok (by kernel_rfl) xts_ok (extI_ok exts3_ok k48) (of_toB e49)) k48
theorem k50 : ∀ I ∈ l50, InstOk Tryz.prog I := insts_cons (inst_ok (by kernel_rfl) xts_ok (extI_ok exts3_ok k49) (of_toB e50)) k49
theorem k51 : ∀ I ∈ l51, InstOk Tryz.prog I := insts_cons (inst_ok (by kernel_rfl) xts_ok (extI_ok exts3_ok k50) (of_toB e51)) k50
theorem k52 : ∀ I ∈ l52, InstOk Tryz.prog I := insts_cons (inst_ok (by kernel_rfl) xts_ok (extI_ok exts3_ok k51) (of_toB e52)) k51
theorem k53 : ∀ I ∈ l53, InstOk Tryz.prog I := insts_cons (inst_ok (by kernel_rfl) xts_ok (extI_ok exts3_ok k52) (of_toB e53)) k52
theorem k54 : ∀ I ∈ l54, InstOk Tryz.prog I := insts_cons (inst_ok (by kernel_rfl) xts_ok (extI_ok exts3_ok k53) (of_toB e54)) k53
theorem k55 : ∀ I ∈ l55, InstOk Tryz.prog I := insts_cons (inst_ok (by kernel_rfl) xts_ok (extI_ok exts3_ok k54) (of_toB e55)) k54
theorem k56 : ∀ I ∈ l56, InstOk Tryz.prog I := insts_cons (inst_ok (by kernel_rfl) xts_ok (extI_ok exts3_ok k55) (of_toB e56)) k55
theorem k57 : ∀ I ∈ l57, InstOk Tryz.prog I := insts_cons (inst_ok (by kernel_rfl) xts_ok (extI_ok exts3_ok k56) (of_toB e57)) k56
theorem k58 : ∀ I ∈ l58, InstOk Tryz.prog I := insts_cons (inst_ok (by kernel_rfl) xts_ok (extI_ok exts3_ok k57) (of_toB e58)) k57
theorem k59 : ∀ I ∈ l59, InstOk Tryz.prog I := insts_cons (inst_ok (by kernel_rfl) xts_ok (extI_ok exts3_ok k58) (of_toB e59)) k58
theorem k60 : ∀ I ∈ l60, InstOk Tryz.prog I := insts_cons (inst_ok (by kernel_rfl) xts_ok (extI_ok exts3_ok k59) (of_toB e60)) k59
theorem k61 : ∀ I ∈ l61, InstOk Tryz.prog I := insts_cons (inst_ok (by kernel_rfl) xts_ok (extI_ok exts3_ok k60) (of_toB e61)) k60
theorem k62 : ∀ I ∈ l62, InstOk Tryz.prog I := insts_cons (inst_ok (by kernel_rfl) xts_ok (extI_ok exts3_ok k61) (of_toB e62)) k61
theorem k63 : ∀ I ∈ l63, InstOk Tryz.prog I := insts_cons (inst_ok (by kernel_rfl) xts_ok (extI_ok exts3_ok k62) (of_toB e63)) k62
theorem k64 : ∀ I ∈ l64, InstOk Tryz.prog I := insts_cons (inst_ok (by kernel_rfl) xts_ok (extI_ok exts3_ok k63) (of_toB e64)) k63
theorem k65 : ∀ I ∈ l65, InstOk Tryz.prog I := insts_cons (inst_ok (by kernel_rfl) xts_ok (extI_ok exts3_ok k64) (of_toB e65)) k64
theorem k66 : ∀ I ∈ l66, InstOk Tryz.prog I := insts_cons (inst_ok (by kernel_rfl) xts_ok (extI_ok exts3_ok k65) (of_toB e66)) k65
theorem k67 : ∀ I ∈ l67, InstOk Tryz.prog I := insts_cons (inst_ok (by kernel_rfl) xts_ok (extI_ok exts3_ok k66) (of_toB e67)) k66
theorem k68 : ∀ I ∈ l68, InstOk Tryz.prog I := insts_cons (inst_ok (by kernel_rfl) xts_ok (extI_ok exts3_ok k67) (of_toB e68)) k67
theorem k69 : ∀ I ∈ l69, InstOk Tryz.prog I := insts_cons (inst_ok (by kernel_rfl) xts_ok (extI_ok exts3_ok k68) (of_toB e69)) k68
theorem k70 : ∀ I ∈ l70, InstOk Tryz.prog I := insts_cons (inst_ok (by kernel_rfl) xts_ok (extI_ok exts3_ok k69) (of_toB e70)) k69
theorem k71 : ∀ I ∈ l71, InstOk Tryz.prog I := insts_cons (inst_ok (by kernel_rfl) xts_ok (extI_ok exts3_ok k70) (of_toB e71)) k70
theorem k72 : ∀ I ∈ l72, InstOk Tryz.prog I := insts_cons (inst_ok (by kernel_rfl) xts_ok (extI_ok exts3_ok k71) (of_toB e72)) k71
theorem k73 : ∀ I ∈ l73, InstOk Tryz.prog I := insts_cons (inst_ok (by kernel_rfl) xts_ok (extI_ok exts3_ok k72) (of_toB e73)) k72
theorem k74 : ∀ I ∈ l74, InstOk Tryz.prog I := insts_cons (inst_ok (by kernel_rfl) xts_ok (extI_ok exts3_ok k73) (of_toB e74)) k73
theorem k75 : ∀ I ∈ l75, InstOk Tryz.prog I := insts_cons (inst_ok (by kernel_rfl) xts_ok (extI_ok exts3_ok k74) (of_toB e75)) k74
theorem k76 : ∀ I ∈ l76, InstOk Tryz.prog I := insts_cons (inst_ok (by kernel_rfl) xts_ok (extI_ok exts3_ok k75) (of_toB e76)) k75
theorem k77 : ∀ I ∈ l77, InstOk Tryz.prog I := insts_cons (inst_ok (by kernel_rfl) xts_ok (extI_ok exts3_ok k76) (of_toB e77)) k76
theorem k78 : ∀ I ∈ l78, InstOk Tryz.prog I := insts_cons (inst_ok (by kernel_rfl) xts_ok (extI_ok exts3_ok k77) (of_toB e78)) k77
theorem k79 : ∀ I ∈ l79, InstOk Tryz.prog I := insts_cons (inst_ok (by kernel_rfl) xts_ok (extI_ok exts3_ok k78) (of_toB e79)) k78
theorem k80 : ∀ I ∈ l80, InstOk Tryz.prog I := insts_cons (inst_ok (by kernel_rfl) xts_ok (extI_ok exts3_ok k79) (of_toB e80)) k79
theorem k81 : ∀ I ∈ l81, InstOk Tryz.prog I := insts_cons (inst_ok (by kernel_rfl) xts_ok (extI_ok exts3_ok k80) (of_toB e81)) k80
theorem k82 : ∀ I ∈ l82, InstOk Tryz.prog I := insts_cons (inst_ok (by kernel_rfl) xts_ok (extI_ok exts3_ok k81) (of_toB e82)) k81
theorem k83 : ∀ I ∈ l83, InstOk Tryz.prog I := insts_cons (inst_ok (by kernel_rfl) xts_ok (extI_ok exts3_ok k82) (of_toB e83)) k82
theorem k84 : ∀ I ∈ l84, InstOk Tryz.prog I := insts_cons (inst_ok (by kernel_rfl) xts_ok (extI_ok exts3_ok k83) (of_toB e84)) k83
theorem k85 : ∀ I ∈ l85, InstOk Tryz.prog I := insts_cons (inst_ok (by kernel_rfl) xts_ok (extI_ok exts3_ok k84) (of_toB e85)) k84
theorem k86 : ∀ I ∈ l86, InstOk Tryz.prog I := insts_cons (inst_ok (by kernel_rfl) xts_ok (extI_ok exts3_ok k85) (of_toB e86)) k85
theorem k87 : ∀ I ∈ l87, InstOk Tryz.prog I := insts_cons (inst_ok (by kernel_rfl) xts_ok (extI_ok exts3_ok k86) (of_toB e87)) k86
theorem k88 : ∀ I ∈ l88, InstOk Tryz.prog I := insts_cons (inst_ok (by kernel_rfl) xts_ok (extI_ok exts3_ok k87) (of_toB e88)) k87
theorem k89 : ∀ I ∈ l89, InstOk Tryz.prog I := insts_cons (inst_ok (by kernel_rfl) xts_ok (extI_ok exts3_ok k88) (of_toB e89)) k88
theorem k90 : ∀ I ∈ l90, InstOk Tryz.prog I := insts_cons (inst_ok (by kernel_rfl) xts_ok (extI_ok exts3_ok k89) (of_toB e90)) k89
theorem k91 : ∀ I ∈ l91, InstOk Tryz.prog I := insts_cons (inst_ok (by kernel_rfl) xts_ok (extI_ok exts3_ok k90) (of_toB e91)) k90
theorem k92 : ∀ I ∈ l92, InstOk Tryz.prog I := insts_cons (inst_ok (by kernel_rfl) xts_ok (extI_ok exts3_ok k91) (of_toB e92)) k91
theorem k93 : ∀ I ∈ l93, InstOk Tryz.prog I := insts_cons (inst_ok (by kernel_rfl) xts_ok (extI_ok exts3_ok k92) (of_toB e93)) k92
theorem k94 : ∀ I ∈ l94, InstOk Tryz.prog I := insts_cons (inst_ok (by kernel_rfl) xts_ok (extI_ok exts3_ok k93) (of_toB e94)) k93
theorem k95 : ∀ I ∈ l95, InstOk Tryz.prog I := insts_cons (inst_ok (by kernel_rfl) xts_ok (extI_ok exts3_ok k94) (of_toB e95)) k94
theorem k96 : ∀ I ∈ l96, InstOk Tryz.prog I := insts_cons (inst_ok (by kernel_rfl) xts_ok (extI_ok exts3_ok k95) (of_toB e96)) k95
theorem k97 : ∀ I ∈ l97, InstOk Tryz.prog I := insts_cons (inst_ok (by kernel_rfl) xts_ok (extI_ok exts3_ok k96) (of_toB e97)) k96
theorem k98 : ∀ I ∈ l98, InstOk Tryz.prog I := insts_cons (inst_ok (by kernel_rfl) xts_ok (extI_ok exts3_ok k97) (of_toB e98)) k97
theorem k99 : ∀ I ∈ l99, InstOk Tryz.prog I := insts_cons (inst_ok (by kernel_rfl) xts_ok (extI_ok exts3_ok k98) (of_toB e99)) k98
theorem k100 : ∀ I ∈ l100, InstOk Tryz.prog I := insts_cons (inst_ok (by kernel_rfl) xts_ok (extI_ok exts3_ok k99) (of_toB e100)) k99
theorem k101 : ∀ I ∈ l101, InstOk Tryz.prog I := insts_cons (inst_ok (by kernel_rfl) xts_ok (extI_ok exts3_ok k100) (of_toB e101)) k100
theorem k102 : ∀ I ∈ l102, InstOk Tryz.prog I := insts_cons (inst_ok (by kernel_rfl) xts_ok (extI_ok exts3_ok k101) (of_toB e102)) k101
theorem k103 : ∀ I ∈ l103, InstOk Tryz.prog I := insts_cons (inst_ok (by kernel_rfl) xts_ok (extI_ok exts3_ok k102) (of_toB e103)) k102
theorem k104 : ∀ I ∈ l104, InstOk Tryz.prog I := insts_cons (inst_ok (by kernel_rfl) xts_ok (extI_ok exts3_ok k103) (of_toB e104)) k103
theorem k105 : ∀ I ∈ l105, InstOk Tryz.prog I := insts_cons (inst_ok (by kernel_rfl) xts_ok (extI_ok exts3_ok k104) (of_toB e105)) k104
theorem k106 : ∀ I ∈ l106, InstOk Tryz.prog I := insts_cons (inst_ok (by kernel_rfl) xts_ok (extI_ok exts3_ok k105) (of_toB e106)) k105
theorem k107 : ∀ I ∈ l107, InstOk Tryz.prog I := insts_cons (inst_ok (by kernel_rfl) xts_ok (extI_ok exts3_ok k106) (of_toB e107)) k106
theorem k108 : ∀ I ∈ l108, InstOk Tryz.prog I := insts_cons (inst_ok (by kernel_rfl) xts_ok (extI_ok exts3_ok k107) (of_toB e108)) k107
theorem k109 : ∀ I ∈ l109, InstOk Tryz.prog I := insts_cons (inst_ok (by kernel_rfl) xts_ok (extI_ok exts3_ok k108) (of_toB e109)) k108
theorem k110 : ∀ I ∈ l110, InstOk Tryz.prog I := insts_cons (inst_ok (by kernel_rfl) xts_ok (extI_ok exts3_ok k109) (of_toB e110)) k109
theorem k111 : ∀ I ∈ l111, InstOk Tryz.prog I := insts_cons (inst_ok (by kernel_rfl) xts_ok (extI_ok exts3_ok k110) (of_toB e111)) k110
theorem k112 : ∀ I ∈ l112, InstOk Tryz.prog I := insts_cons (inst_ok (by kernel_rfl) xts_ok (extI_ok exts3_ok k111) (of_toB e112)) k111
theorem k113 : ∀ I ∈ l113, InstOk Tryz.prog I := insts_cons (inst_ok (by kernel_rfl) xts_ok (extI_ok exts3_ok k112) (of_toB e113)) k112
theorem k114 : ∀ I ∈ l114, InstOk Tryz.prog I := insts_cons (inst_ok (by kernel_rfl) xts_ok (extI_ok exts3_ok k113) (of_toB e114)) k113
theorem k115 : ∀ I ∈ l115, InstOk Tryz.prog I := insts_cons (inst_ok (by kernel_rfl) xts_ok (extI_ok exts3_ok k114) (of_toB e115)) k114
theorem k116 : ∀ I ∈ l116, InstOk Tryz.prog I := insts_cons (inst_ok (by kernel_rfl) xts_ok (extI_ok exts3_ok k115) (of_toB e116)) k115
theorem k117 : ∀ I ∈ l117, InstOk Tryz.prog I := insts_cons (inst_ok (by kernel_rfl) xts_ok (extI_ok exts3_ok k116) (of_toB e117)) k116
theorem k118 : ∀ I ∈ l118, InstOk Tryz.prog I := insts_cons (inst_ok (by kernel_rfl) xts_ok (extI_ok exts3_ok k117) (of_toB e118)) k117
theorem k119 : ∀ I ∈ l119, InstOk Tryz.prog I := insts_cons (inst_ok (by kernel_rfl) xts_ok (extI_ok exts3_ok k118) (of_toB e119)) k118
theorem k120 : ∀ I ∈ l120, InstOk Tryz.prog I := insts_cons (inst_ok (by kernel_rfl) xts_ok (extI_ok exts3_ok k119) (of_toB e120)) k119
theorem k121 : ∀ I ∈ l121, InstOk Tryz.prog I := insts_cons (inst_ok (by kernel_rfl) xts_ok (extI_ok exts3_ok k120) (of_toB e121)) k120
theorem k122 : ∀ I ∈ l122, InstOk Tryz.prog I := insts_cons (inst_ok (by kernel_rfl) xts_ok (extI_ok exts3_ok k121) (of_toB e122)) k121
theorem k123 : ∀ I ∈ l123, InstOk Tryz.prog I := insts_cons (inst_ok (by kernel_rfl) xts_ok (extI_ok exts3_ok k122) (of_toB e123)) k122
theorem k124 : ∀ I ∈ l124, InstOk Tryz.prog I := insts_cons (inst_ok (by kernel_rfl) xts_ok (extI_ok exts3_ok k123) (of_toB e124)) k123
theorem k125 : ∀ I ∈ l125, InstOk Tryz.prog I := insts_cons (inst_ok (by kernel_rfl) xts_ok (extI_ok exts3_ok k124) (of_toB e125)) k124
theorem k126 : ∀ I ∈ l126, InstOk Tryz.prog I := insts_cons (inst_ok (by kernel_rfl) xts_ok (extI_ok exts3_ok k125) (of_toB e126)) k125
theorem k127 : ∀ I ∈ l127, InstOk Tryz.prog I := insts_cons (inst_ok (by kernel_rfl) xts_ok (extI_ok exts3_ok k126) (of_toB e127)) k126
theorem k128 : ∀ I ∈ l128, InstOk Tryz.prog I := insts_cons (inst_ok (by kernel_rfl) xts_ok (extI_ok exts3_ok k127) (of_toB e128)) k127
theorem k129 : ∀ I ∈ l129, InstOk Tryz.prog I := insts_cons (inst_ok (by kernel_rfl) xts_ok (extI_ok exts3_ok k128) (of_toB e129)) k128
theorem k130 : ∀ I ∈ l130, InstOk Tryz.prog I := insts_cons (inst_ok (by kernel_rfl) xts_ok (extI_ok exts3_ok k129) (of_toB e130)) k129
theorem k131 : ∀ I ∈ l131, InstOk Tryz.prog I := insts_cons (inst_ok (by kernel_rfl) xts_ok (extI_ok exts3_ok k130) (of_toB e131)) k130
theorem k132 : ∀ I ∈ l132, InstOk Tryz.prog I := insts_cons (inst_ok (by kernel_rfl) xts_ok (extI_ok exts3_ok k131) (of_toB e132)) k131
theorem k133 : ∀ I ∈ l133, InstOk Tryz.prog I := insts_cons (inst_ok (by kernel_rfl) xts_ok (extI_ok exts3_ok k132) (of_toB e133)) k132
theorem k134 : ∀ I ∈ l134, InstOk Tryz.prog I := insts_cons (inst_ok (by kernel_rfl) xts_ok (extI_ok exts3_ok k133) (of_toB e134)) k133
theorem k135 : ∀ I ∈ l135, InstOk Tryz.prog I := insts_cons (inst_ok (by kernel_rfl) xts_ok (extI_ok exts3_ok k134) (of_toB e135)) k134
theorem k136 : ∀ I ∈ l136, InstOk Tryz.prog I := insts_cons (inst_ok (by kernel_rfl) xts_ok (extI_ok exts3_ok k135) (of_toB e136)) k135
theorem k137 : ∀ I ∈ l137, InstOk Tryz.prog I := insts_cons (inst_ok (by kernel_rfl) xts_ok (extI_ok exts3_ok k136) (of_toB e137)) k136
def extsT := extI exts3 l137
def hasT := hasI exts3 l137
theorem extsT_ok : ExtOk Tryz.prog extsT := extI_ok exts3_ok k137
set_option maxRecDepth 10000000
set_option maxHeartbeats 0
theorem evals : toB (evJ (envOf Tryz.prog extsT xts hasT) (drawJ (envOf Tryz.prog extsT xts hasT)) 1000 5 [anyI, anyI] nilSt isTrue) = true := by kernel_rfl
end Go.Proofs.YtcfekhcdadldmaaGreatDoor.D
