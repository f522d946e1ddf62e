/-
  coil/coillaw4.GraphRuns, worked out by the kernel, its loop by its points.
-/
import Derived.Test.YtcajhnedmbhnfaaGreatDoorRS1
import Derived.Test.YtcajhnedmbhnfaaGreatDoorRS2
import Derived.Test.YtcajhnedmbhnfaaGreatDoorRS3
import Derived.Test.YtcajhnedmbhnfaaGreatDoorRS4
import Derived.Test.YtcajhnedmbhnfaaGreatDoorRS5
import Derived.Test.YtcajhnedmbhnfaaGreatDoorRS6
import Derived.Test.YtcajhnedmbhnfaaGreatDoorRS7
import Derived.Test.YtcajhnedmbhnfaaGreatDoorRS8
namespace Go.Proofs.YtcajhnedmbhnfaaGreatDoor
open Go Go.RowKit Am
set_option maxRecDepth 10000000
set_option maxHeartbeats 0
theorem link0 : Link Tryz.prog (loopC Tryz.prog) (pt Tryz.prog 0) (pt Tryz.prog 32) := seg_link s0
theorem link1 : Link Tryz.prog (loopC Tryz.prog) (pt Tryz.prog 0) (pt Tryz.prog 64) := link0.trans (seg_link s32)
theorem link2 : Link Tryz.prog (loopC Tryz.prog) (pt Tryz.prog 0) (pt Tryz.prog 96) := link1.trans (seg_link s64)
theorem link3 : Link Tryz.prog (loopC Tryz.prog) (pt Tryz.prog 0) (pt Tryz.prog 128) := link2.trans (seg_link s96)
theorem link4 : Link Tryz.prog (loopC Tryz.prog) (pt Tryz.prog 0) (pt Tryz.prog 160) := link3.trans (seg_link s128)
theorem link5 : Link Tryz.prog (loopC Tryz.prog) (pt Tryz.prog 0) (pt Tryz.prog 192) := link4.trans (seg_link s160)
theorem link6 : Link Tryz.prog (loopC Tryz.prog) (pt Tryz.prog 0) (pt Tryz.prog 224) := link5.trans (seg_link s192)
theorem link7 : Link Tryz.prog (loopC Tryz.prog) (pt Tryz.prog 0) (pt Tryz.prog 256) := link6.trans (seg_link s224)
theorem link8 : Link Tryz.prog (loopC Tryz.prog) (pt Tryz.prog 0) (pt Tryz.prog 288) := link7.trans (seg_link s256)
theorem link9 : Link Tryz.prog (loopC Tryz.prog) (pt Tryz.prog 0) (pt Tryz.prog 320) := link8.trans (seg_link s288)
theorem link10 : Link Tryz.prog (loopC Tryz.prog) (pt Tryz.prog 0) (pt Tryz.prog 352) := link9.trans (seg_link s320)
theorem link11 : Link Tryz.prog (loopC Tryz.prog) (pt Tryz.prog 0) (pt Tryz.prog 384) := link10.trans (seg_link s352)
theorem link12 : Link Tryz.prog (loopC Tryz.prog) (pt Tryz.prog 0) (pt Tryz.prog 416) := link11.trans (seg_link s384)
theorem link13 : Link Tryz.prog (loopC Tryz.prog) (pt Tryz.prog 0) (pt Tryz.prog 448) := link12.trans (seg_link s416)
theorem link14 : Link Tryz.prog (loopC Tryz.prog) (pt Tryz.prog 0) (pt Tryz.prog 480) := link13.trans (seg_link s448)
theorem link15 : Link Tryz.prog (loopC Tryz.prog) (pt Tryz.prog 0) (pt Tryz.prog 512) := link14.trans (seg_link s480)
theorem link16 : Link Tryz.prog (loopC Tryz.prog) (pt Tryz.prog 0) (pt Tryz.prog 544) := link15.trans (seg_link s512)
theorem link17 : Link Tryz.prog (loopC Tryz.prog) (pt Tryz.prog 0) (pt Tryz.prog 576) := link16.trans (seg_link s544)
theorem link18 : Link Tryz.prog (loopC Tryz.prog) (pt Tryz.prog 0) (pt Tryz.prog 608) := link17.trans (seg_link s576)
theorem link19 : Link Tryz.prog (loopC Tryz.prog) (pt Tryz.prog 0) (pt Tryz.prog 640) := link18.trans (seg_link s608)
theorem link20 : Link Tryz.prog (loopC Tryz.prog) (pt Tryz.prog 0) (pt Tryz.prog 672) := link19.trans (seg_link s640)
theorem link21 : Link Tryz.prog (loopC Tryz.prog) (pt Tryz.prog 0) (pt Tryz.prog 704) := link20.trans (seg_link s672)
theorem link22 : Link Tryz.prog (loopC Tryz.prog) (pt Tryz.prog 0) (pt Tryz.prog 736) := link21.trans (seg_link s704)
theorem link23 : Link Tryz.prog (loopC Tryz.prog) (pt Tryz.prog 0) (pt Tryz.prog 768) := link22.trans (seg_link s736)
theorem link24 : Link Tryz.prog (loopC Tryz.prog) (pt Tryz.prog 0) (pt Tryz.prog 800) := link23.trans (seg_link s768)
theorem link25 : Link Tryz.prog (loopC Tryz.prog) (pt Tryz.prog 0) (pt Tryz.prog 832) := link24.trans (seg_link s800)
theorem link26 : Link Tryz.prog (loopC Tryz.prog) (pt Tryz.prog 0) (pt Tryz.prog 864) := link25.trans (seg_link s832)
theorem link27 : Link Tryz.prog (loopC Tryz.prog) (pt Tryz.prog 0) (pt Tryz.prog 896) := link26.trans (seg_link s864)
theorem link28 : Link Tryz.prog (loopC Tryz.prog) (pt Tryz.prog 0) (pt Tryz.prog 928) := link27.trans (seg_link s896)
theorem link29 : Link Tryz.prog (loopC Tryz.prog) (pt Tryz.prog 0) (pt Tryz.prog 960) := link28.trans (seg_link s928)
theorem link30 : Link Tryz.prog (loopC Tryz.prog) (pt Tryz.prog 0) (pt Tryz.prog 992) := link29.trans (seg_link s960)
theorem evals : toB (topP (env0 Tryz.prog) 1000 3 (segA (env0 Tryz.prog) (evJ (env0 Tryz.prog) (drawJ (env0 Tryz.prog)) 1000) (drawK (env0 Tryz.prog) (evJ (env0 Tryz.prog) (drawJ (env0 Tryz.prog)) 1000)) (loopC Tryz.prog) 0 (pt Tryz.prog 0) (pt Tryz.prog 992)) place) = true := by kernel_rfl
theorem loop_there : bodyO Tryz.prog = some (.block 0 (.loop (loopC Tryz.prog))) := by kernel_rfl
theorem runs_seg (w : World) (hG : GlobOk w) : Calls Tryz.prog 3 #[] w fun e w' => e = .returned (.bool true) ∧ Below w.heap.size w w' := by
  have g := good_of Tryz.prog exts (hs := hasN0) xts_ok
  have gf := goodF_of (xt := xts) (hs := hasN0) exts_ok
  have ih := evJ_ok g gf (by kernel_rfl) 1000
  exact runs_topP (by kernel_rfl) xts_ok exts_ok loop_there (fun kr => segA_ok g ih (draw_ok g (by kernel_rfl) ih) link30 kr) (of_toB evals) w hG
end Go.Proofs.YtcajhnedmbhnfaaGreatDoor
