import Derived.Test.YtdamlfkieecnjaaGreatDoorQRLaid
import Derived.Test.YtdamlfkieecnjaaGreatDoorQPTLaw

namespace Go.Proofs.YtdamlfkieecnjaaGreatDoor
open Go Go.ChangeShapes Go.WideShapes Go.ChangeAt Go.RowKit
theorem g_64:Tryz.prog.globalNamed "math/bits.deBruijn64tab" = some 3:=by kernel_rfl
theorem t_pow:(Tryz.prog.globals[1]?).map (·.type)=some 303:=by kernel_rfl
theorem c_pow:Tryz.prog.cellsOf 303=20:=by kernel_rfl
theorem c_u64:Tryz.prog.cellsOf 292=1:=by kernel_rfl
theorem of_laid {W:World} (h:laidMetH Tryz.prog laidL W):ErrType W/\Tab W/\4<=W.heap.size:=by
 have h':laidMet Tryz.prog [("math/bits.deBruijn32tab",Rows.laid_math_bits_deBruijn32tab),("math/bits.deBruijn64tab",Rows.laid_math_bits_deBruijn64tab),("internal/strconv.uint64pow10",Rows.laid_internal_strconv_uint64pow10)] W/\handlesMet Tryz.prog [("errors.errorType",Rows.laid_errors_errorType)] W:=h;obtain⟨hd,hh⟩:=h';obtain⟨ps,⟨g0,t0,cs0,f0,p0,q0,hg0,ht0,hv0,hd0,⟨g1,t1,cs1,f1,p1,q1,hg1,ht1,hv1,hd1,⟨g2,t2,cs2,f2,p2,q2,hg2,ht2,hv2,hd2,_,_⟩,_⟩,_⟩,_,_⟩:=hd;refine⟨?_,?_,?_⟩
 ·obtain⟨name,u,ty,e1,e2,e3,e4,e5⟩:=hh _ (List.mem_singleton.2 rfl);have en:name=[101,114,114,111,114]:=(Option.some.inj e1).symm;subst en;obtain rfl:=Option.some.inj (rt_no.symm.trans e2);have hm:ty∈(List.range Tryz.prog.types.size).filter fun t=>Tryz.prog.rowNamed t [101,114,114,111,114]:=List.mem_filter.2 ⟨List.mem_range.2 e3,e4⟩
  rw[one_row]at hm;obtain rfl:=List.mem_singleton.1 hm;have hk:typeHandle Tryz.prog 29=hdl 29:=by kernel_rfl
  rw[hk]at e5;show W.cell? _=_;simpa using World.var?_cell g_err e5 0
 ·obtain rfl:=Option.some.inj (tab_global.symm.trans hg2);obtain rfl:=Option.some.inj (t_pow.symm.trans ht2);show Lib.TabIs _ _ _ _ _;unfold Lib.TabIs;rw[hv2,<-Lib.cells_of_tab (zs:=Lib.pow10Tab) (k:=.u64) Tryz.underlying303 Tryz.underlying292 c_u64 c_pow hd2]
 ·obtain rfl:=Option.some.inj (g_64.symm.trans hg1);rcases Nat.lt_or_ge 3 W.heap.size with hl|hl
  ·omega
  ·unfold World.var? at hv1;simp[g_64,Array.getElem?_eq_none hl]at hv1
end Go.Proofs.YtdamlfkieecnjaaGreatDoor
