import Derived.Test.YtmpbbmfbgcpplaaGreatDoorRows
import Derived.Test.YtmpbbmfbgcpplaaGreatDoorTie
import Derived.Test.YtmpbbmfbgcpplaaGreatDoorCards
import Derived.Test.YtmpbbmfbgcpplaaGreatDoorQLexA
import Derived.Test.YtmpbbmfbgcpplaaGreatDoorQLexC
import Derived.ProofKit
import Derived.LaidMore
import Derived.LaidHandle
import Derived.LaidLaws
import Derived.OpenShut
import Derived.Stop.Joined
import Derived.SevenTiedAt
namespace Go.Proofs.YtmpbbmfbgcpplaaGreatDoor
open Go Go.ChangeShapes Go.WideShapes Go.ChangeAt Go.RowKit
abbrev laidL : List (String × DataW Unit) := [("math/bits.deBruijn32tab", Rows.laid_math_bits_deBruijn32tab), ("math/bits.deBruijn64tab", Rows.laid_math_bits_deBruijn64tab), ("internal/strconv.uint64pow10", Rows.laid_internal_strconv_uint64pow10)]
theorem own : ownKnob Tryz.prog.godebug = none := by kernel_rfl
theorem g_64 : Tryz.prog.globalNamed "math/bits.deBruijn64tab" = some 3 := by kernel_rfl
theorem t_pow : (Tryz.prog.globals[0]?).map (·.type) = some 217 := by kernel_rfl
theorem c_pow : Tryz.prog.cellsOf 217 = 20 := by kernel_rfl
theorem c_u64 : Tryz.prog.cellsOf 198 = 1 := by kernel_rfl
theorem of_laid {W : World} (h : laidMetH Tryz.prog laidL W) : Tab W ∧ 3 < W.heap.size := by
 have hd : laidMet Tryz.prog [("math/bits.deBruijn32tab", Rows.laid_math_bits_deBruijn32tab), ("math/bits.deBruijn64tab", Rows.laid_math_bits_deBruijn64tab), ("internal/strconv.uint64pow10", Rows.laid_internal_strconv_uint64pow10)] W := h
 obtain ⟨ps, ⟨g0, t0, cs0, f0, p0, q0, hg0, ht0, hv0, hd0, ⟨g1, t1, cs1, f1, p1, q1, hg1, ht1, hv1, hd1, ⟨g2, t2, cs2, f2, p2, q2, hg2, ht2, hv2, hd2, _, _⟩, _⟩, _⟩, _, _⟩ := hd
 refine ⟨?_, ?_⟩
 ·obtain rfl := Option.some.inj (tab_global.symm.trans hg2)
  obtain rfl := Option.some.inj (t_pow.symm.trans ht2)
  show Lib.TabIs _ _ _ _ _
  unfold Lib.TabIs
  rw [hv2, ← Lib.cells_of_tab (zs := Lib.pow10Tab) (k := .u64) Tryz.underlying217 Tryz.underlying198 c_u64 c_pow hd2]
 ·obtain rfl := Option.some.inj (g_64.symm.trans hg1)
  rcases Nat.lt_or_ge 3 W.heap.size with hl | hl
  ·omega
  ·unfold World.var? at hv1
   simp [g_64, Array.getElem?_eq_none hl] at hv1
theorem door_met (os : Os) (args : Array Value) : laidMetH Tryz.prog laidL ((World.doorLaid Tryz.prog 4000 os).forCall (fun _ _ => 0) ⟨#[], args, []⟩).memory :=
 laidMetH_of_parts (laidMet_of_run' 8 (by kernel_rfl) (by kernel_rfl)) (by kernel_rfl)
end Go.Proofs.YtmpbbmfbgcpplaaGreatDoor
