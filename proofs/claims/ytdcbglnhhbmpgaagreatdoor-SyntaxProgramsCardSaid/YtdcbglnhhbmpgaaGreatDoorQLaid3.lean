import Derived.Test.YtdcbglnhhbmpgaaGreatDoorRows
import Derived.Test.YtdcbglnhhbmpgaaGreatDoorTie
import Derived.Test.YtdcbglnhhbmpgaaGreatDoorCards
import Derived.Test.YtdcbglnhhbmpgaaGreatDoorQJoinF
import Derived.ProofKit
import Derived.LaidMore
import Derived.LaidHandle
import Derived.LaidLaws
import Derived.OpenShut
import Derived.Stop.Joined
import Derived.SevenTiedAt

namespace Go.Proofs.YtdcbglnhhbmpgaaGreatDoor
open Go Go.ChangeShapes Go.WideShapes Go.ChangeAt Go.RowKit
abbrev laidL:List (String×DataW Unit):=[("math/bits.deBruijn32tab",Rows.laid_math_bits_deBruijn32tab),("math/bits.deBruijn64tab",Rows.laid_math_bits_deBruijn64tab),("internal/strconv.uint64pow10",Rows.laid_internal_strconv_uint64pow10)]
theorem own:ownKnob Tryz.prog.godebug=none:=by kernel_rfl
theorem g_64:Tryz.prog.globalNamed "math/bits.deBruijn64tab" = some 3:=by kernel_rfl
theorem t_pow:(Tryz.prog.globals[0]?).map (·.type)=some 216:=by kernel_rfl
theorem c_pow:Tryz.prog.cellsOf 216=20:=by kernel_rfl
theorem c_u64:Tryz.prog.cellsOf 196=1:=by kernel_rfl
theorem of_laid {W:Zw} (h:laidMetH Tryz.prog laidL W):Tab W/\3<W.heap.size:=by
 have hd:laidMet Tryz.prog [("math/bits.deBruijn32tab",Rows.laid_math_bits_deBruijn32tab),("math/bits.deBruijn64tab",Rows.laid_math_bits_deBruijn64tab),("internal/strconv.uint64pow10",Rows.laid_internal_strconv_uint64pow10)] W:=h;obtain⟨x,⟨g0,t0,G,f0,I,J,L,M,U,V,⟨g1,t1,Y,f1,Z,q1,j,aa,c,ab,⟨g2,t2,ac,f2,p2,q2,r,s,t,u,_,_⟩,_⟩,_⟩,_,_⟩:=hd;refine⟨?_,?_⟩
 ·obtain rfl:=Y1 (tab_global.symm.trans r);obtain rfl:=Y1 (t_pow.symm.trans s);show Lib.TabIs _ _ _ _ _;unfold Lib.TabIs;rw[t,<-Lib.cells_of_tab (zs:=Lib.pow10Tab) (k:=.u64) Tryz.underlying216 Tryz.underlying196 c_u64 c_pow u]
 ·obtain rfl:=Y1 (g_64.symm.trans j);rcases YW 3 W.heap.size with g|g
  ·omega
  ·unfold World.var? at c;simp[g_64,Array.getElem?_eq_none g]at c
theorem door_met (os:Os) (args:Array Value):laidMetH Tryz.prog laidL ((World.doorLaid Tryz.prog 4000 os).forCall (fun _ _=>0) ⟨#[],args,[]⟩).memory:=
 laidMetH_of_parts (laidMet_of_run' 8 Zk Zk) Zk
end Go.Proofs.YtdcbglnhhbmpgaaGreatDoor
