/-
  Calls of MachineRuns, worked out by the kernel.
-/
import Derived.Test.YtanhphnbcdgbdaaGreatDoorRInst
namespace Go.Proofs.YtanhphnbcdgbdaaGreatDoor
open Go Am
set_option maxRecDepth 10000000
set_option maxHeartbeats 0
theorem e1 : toB (chkI (envOf Tryz.prog (extI exts l0) xts (hasI exts l0)) 1000 i1) = true := by kernel_rfl
theorem e2 : toB (chkI (envOf Tryz.prog (extI exts l1) xts (hasI exts l1)) 1000 i2) = true := by kernel_rfl
theorem e3 : toB (chkI (envOf Tryz.prog (extI exts l2) xts (hasI exts l2)) 1000 i3) = true := by kernel_rfl
theorem e4 : toB (chkI (envOf Tryz.prog (extI exts l3) xts (hasI exts l3)) 1000 i4) = true := by kernel_rfl
theorem e5 : toB (chkI (envOf Tryz.prog (extI exts l4) xts (hasI exts l4)) 1000 i5) = true := by kernel_rfl
theorem e6 : toB (chkI (envOf Tryz.prog (extI exts l5) xts (hasI exts l5)) 1000 i6) = true := by kernel_rfl
theorem e7 : toB (chkI (envOf Tryz.prog (extI exts l6) xts (hasI exts l6)) 1000 i7) = true := by kernel_rfl
theorem e8 : toB (chkI (envOf Tryz.prog (extI exts l7) xts (hasI exts l7)) 1000 i8) = true := by kernel_rfl
theorem e9 : toB (chkI (envOf Tryz.prog (extI exts l8) xts (hasI exts l8)) 1000 i9) = true := by kernel_rfl
theorem e10 : toB (chkI (envOf Tryz.prog (extI exts l9) xts (hasI exts l9)) 1000 i10) = true := by kernel_rfl
theorem e11 : toB (chkI (envOf Tryz.prog (extI exts l10) xts (hasI exts l10)) 1000 i11) = true := by kernel_rfl
theorem e12 : toB (chkI (envOf Tryz.prog (extI exts l11) xts (hasI exts l11)) 1000 i12) = true := by kernel_rfl
theorem e13 : toB (chkI (envOf Tryz.prog (extI exts l12) xts (hasI exts l12)) 1000 i13) = true := by kernel_rfl
theorem e14 : toB (chkI (envOf Tryz.prog (extI exts l13) xts (hasI exts l13)) 1000 i14) = true := by kernel_rfl
theorem e15 : toB (chkI (envOf Tryz.prog (extI exts l14) xts (hasI exts l14)) 1000 i15) = true := by kernel_rfl
theorem e16 : toB (chkI (envOf Tryz.prog (extI exts l15) xts (hasI exts l15)) 1000 i16) = true := by kernel_rfl
theorem e17 : toB (chkI (envOf Tryz.prog (extI exts l16) xts (hasI exts l16)) 1000 i17) = true := by kernel_rfl
theorem e18 : toB (chkI (envOf Tryz.prog (extI exts l17) xts (hasI exts l17)) 1000 i18) = true := by kernel_rfl
theorem e19 : toB (chkI (envOf Tryz.prog (extI exts l18) xts (hasI exts l18)) 1000 i19) = true := by kernel_rfl
theorem e20 : toB (chkI (envOf Tryz.prog (extI exts l19) xts (hasI exts l19)) 1000 i20) = true := by kernel_rfl
theorem e21 : toB (chkI (envOf Tryz.prog (extI exts l20) xts (hasI exts l20)) 1000 i21) = true := by kernel_rfl
theorem e22 : toB (chkI (envOf Tryz.prog (extI exts l21) xts (hasI exts l21)) 1000 i22) = true := by kernel_rfl
theorem e23 : toB (chkI (envOf Tryz.prog (extI exts l22) xts (hasI exts l22)) 1000 i23) = true := by kernel_rfl
theorem e24 : toB (chkI (envOf Tryz.prog (extI exts l23) xts (hasI exts l23)) 1000 i24) = true := by kernel_rfl
theorem e25 : toB (chkI (envOf Tryz.prog (extI exts l24) xts (hasI exts l24)) 1000 i25) = true := by kernel_rfl
theorem e26 : toB (chkI (envOf Tryz.prog (extI exts l25) xts (hasI exts l25)) 1000 i26) = true := by kernel_rfl
theorem e27 : toB (chkI (envOf Tryz.prog (extI exts l26) xts (hasI exts l26)) 1000 i27) = true := by kernel_rfl
theorem e28 : toB (chkI (envOf Tryz.prog (extI exts l27) xts (hasI exts l27)) 1000 i28) = true := by kernel_rfl
theorem e29 : toB (chkI (envOf Tryz.prog (extI exts l28) xts (hasI exts l28)) 1000 i29) = true := by kernel_rfl
theorem e30 : toB (chkI (envOf Tryz.prog (extI exts l29) xts (hasI exts l29)) 1000 i30) = true := by kernel_rfl
theorem e31 : toB (chkI (envOf Tryz.prog (extI exts l30) xts (hasI exts l30)) 1000 i31) = true := by kernel_rfl
theorem e32 : toB (chkI (envOf Tryz.prog (extI exts l31) xts (hasI exts l31)) 1000 i32) = true := by kernel_rfl
theorem e33 : toB (chkI (envOf Tryz.prog (extI exts l32) xts (hasI exts l32)) 1000 i33) = true := by kernel_rfl
theorem e34 : toB (chkI (envOf Tryz.prog (extI exts l33) xts (hasI exts l33)) 1000 i34) = true := by kernel_rfl
theorem e35 : toB (chkI (envOf Tryz.prog (extI exts l34) xts (hasI exts l34)) 1000 i35) = true := by kernel_rfl
theorem e36 : toB (chkI (envOf Tryz.prog (extI exts l35) xts (hasI exts l35)) 1000 i36) = true := by kernel_rfl
theorem e37 : toB (chkI (envOf Tryz.prog (extI exts l36) xts (hasI exts l36)) 1000 i37) = true := by kernel_rfl
theorem e38 : toB (chkI (envOf Tryz.prog (extI exts l37) xts (hasI exts l37)) 1000 i38) = true := by kernel_rfl
theorem e39 : toB (chkI (envOf Tryz.prog (extI exts l38) xts (hasI exts l38)) 1000 i39) = true := by kernel_rfl
theorem e40 : toB (chkI (envOf Tryz.prog (extI exts l39) xts (hasI exts l39)) 1000 i40) = true := by kernel_rfl
theorem e41 : toB (chkI (envOf Tryz.prog (extI exts l40) xts (hasI exts l40)) 1000 i41) = true := by kernel_rfl
theorem e42 : toB (chkI (envOf Tryz.prog (extI exts l41) xts (hasI exts l41)) 1000 i42) = true := by kernel_rfl
theorem e43 : toB (chkI (envOf Tryz.prog (extI exts l42) xts (hasI exts l42)) 1000 i43) = true := by kernel_rfl
theorem e44 : toB (chkI (envOf Tryz.prog (extI exts l43) xts (hasI exts l43)) 1000 i44) = true := by kernel_rfl
theorem e45 : toB (chkI (envOf Tryz.prog (extI exts l44) xts (hasI exts l44)) 1000 i45) = true := by kernel_rfl
theorem e46 : toB (chkI (envOf Tryz.prog (extI exts l45) xts (hasI exts l45)) 1000 i46) = true := by kernel_rfl
theorem e47 : toB (chkI (envOf Tryz.prog (extI exts l46) xts (hasI exts l46)) 1000 i47) = true := by kernel_rfl
theorem e48 : toB (chkI (envOf Tryz.prog (extI exts l47) xts (hasI exts l47)) 1000 i48) = true := by kernel_rfl
theorem e49 : toB (chkI (envOf Tryz.prog (extI exts l48) xts (hasI exts l48)) 1000 i49) = true := by kernel_rfl
theorem e50 : toB (chkI (envOf Tryz.prog (extI exts l49) xts (hasI exts l49)) 1000 i50) = true := by kernel_rfl
theorem e51 : toB (chkI (envOf Tryz.prog (extI exts l50) xts (hasI exts l50)) 1000 i51) = true := by kernel_rfl
theorem e52 : toB (chkI (envOf Tryz.prog (extI exts l51) xts (hasI exts l51)) 1000 i52) = true := by kernel_rfl
theorem e53 : toB (chkI (envOf Tryz.prog (extI exts l52) xts (hasI exts l52)) 1000 i53) = true := by kernel_rfl
theorem e54 : toB (chkI (envOf Tryz.prog (extI exts l53) xts (hasI exts l53)) 1000 i54) = true := by kernel_rfl
theorem e55 : toB (chkI (envOf Tryz.prog (extI exts l54) xts (hasI exts l54)) 1000 i55) = true := by kernel_rfl
theorem e56 : toB (chkI (envOf Tryz.prog (extI exts l55) xts (hasI exts l55)) 1000 i56) = true := by kernel_rfl
theorem e57 : toB (chkI (envOf Tryz.prog (extI exts l56) xts (hasI exts l56)) 1000 i57) = true := by kernel_rfl
theorem e58 : toB (chkI (envOf Tryz.prog (extI exts l57) xts (hasI exts l57)) 1000 i58) = true := by kernel_rfl
theorem e59 : toB (chkI (envOf Tryz.prog (extI exts l58) xts (hasI exts l58)) 1000 i59) = true := by kernel_rfl
theorem e60 : toB (chkI (envOf Tryz.prog (extI exts l59) xts (hasI exts l59)) 1000 i60) = true := by kernel_rfl
theorem e61 : toB (chkI (envOf Tryz.prog (extI exts l60) xts (hasI exts l60)) 1000 i61) = true := by kernel_rfl
theorem e62 : toB (chkI (envOf Tryz.prog (extI exts l61) xts (hasI exts l61)) 1000 i62) = true := by kernel_rfl
theorem e63 : toB (chkI (envOf Tryz.prog (extI exts l62) xts (hasI exts l62)) 1000 i63) = true := by kernel_rfl
theorem e64 : toB (chkI (envOf Tryz.prog (extI exts l63) xts (hasI exts l63)) 1000 i64) = true := by kernel_rfl
theorem e65 : toB (chkI (envOf Tryz.prog (extI exts l64) xts (hasI exts l64)) 1000 i65) = true := by kernel_rfl
theorem e66 : toB (chkI (envOf Tryz.prog (extI exts l65) xts (hasI exts l65)) 1000 i66) = true := by kernel_rfl
theorem e67 : toB (chkI (envOf Tryz.prog (extI exts l66) xts (hasI exts l66)) 1000 i67) = true := by kernel_rfl
theorem e68 : toB (chkI (envOf Tryz.prog (extI exts l67) xts (hasI exts l67)) 1000 i68) = true := by kernel_rfl
theorem e69 : toB (chkI (envOf Tryz.prog (extI exts l68) xts (hasI exts l68)) 1000 i69) = true := by kernel_rfl
theorem e70 : toB (chkI (envOf Tryz.prog (extI exts l69) xts (hasI exts l69)) 1000 i70) = true := by kernel_rfl
theorem e71 : toB (chkI (envOf Tryz.prog (extI exts l70) xts (hasI exts l70)) 1000 i71) = true := by kernel_rfl
theorem e72 : toB (chkI (envOf Tryz.prog (extI exts l71) xts (hasI exts l71)) 1000 i72) = true := by kernel_rfl
theorem e73 : toB (chkI (envOf Tryz.prog (extI exts l72) xts (hasI exts l72)) 1000 i73) = true := by kernel_rfl
theorem e74 : toB (chkI (envOf Tryz.prog (extI exts l73) xts (hasI exts l73)) 1000 i74) = true := by kernel_rfl
theorem e75 : toB (chkI (envOf Tryz.prog (extI exts l74) xts (hasI exts l74)) 1000 i75) = true := by kernel_rfl
theorem e76 : toB (chkI (envOf Tryz.prog (extI exts l75) xts (hasI exts l75)) 1000 i76) = true := by kernel_rfl
theorem e77 : toB (chkI (envOf Tryz.prog (extI exts l76) xts (hasI exts l76)) 1000 i77) = true := by kernel_rfl
theorem e78 : toB (chkI (envOf Tryz.prog (extI exts l77) xts (hasI exts l77)) 1000 i78) = true := by kernel_rfl
theorem e79 : toB (chkI (envOf Tryz.prog (extI exts l78) xts (hasI exts l78)) 1000 i79) = true := by kernel_rfl
end Go.Proofs.YtanhphnbcdgbdaaGreatDoor
