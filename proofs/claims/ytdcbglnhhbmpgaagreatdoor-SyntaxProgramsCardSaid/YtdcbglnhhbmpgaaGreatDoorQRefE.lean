import Derived.Test.YtdcbglnhhbmpgaaGreatDoorQRefC
import Derived.Test.YtdcbglnhhbmpgaaGreatDoorQOwnG
import Derived.Lib.AppendStr
set_option maxHeartbeats 4000000
set_option maxRecDepth 100000
namespace Go.Proofs.YtdcbglnhhbmpgaaGreatDoor
open Go Go.RowKit Lx
namespace Lx
def textR:List Bs->Nat->Bs->Option Bs
 | [],_,acc=>some acc
 | s::r,i,acc=>
  if 65536<((acc++(if 0<i then[32]else[]))++s).length then none
  else textR r (i+1) ((acc++(if 0<i then[32]else[]))++s)
def zdd (c:List Bs):Sum Nat Bs:=
 match textR c 0 []with
 | none=>.inl 2
 | some l=>if 4096<c.length then .inl 3 else .inr l
end Lx
theorem cells_of_str (s:Zy):Lib.strCells s=Lib.byteCells s.data.toList:=by simp[Lib.strCells,Lib.byteCells]
theorem Text_any (v:Value) (h:List Bs) (w:Zw) (hv:SRow w v h) (hl:h.length<=1000000) (hS:∀s∈h,s.length<=1000000) :
  ZC 38 #[v] w (JI (zdd h)):=by
 obtain⟨i0,hi,ab,ac,ad⟩:=Xx rinfo_u8;have HV:=J3 hv;have ay:=J3 hS;obtain⟨p,c,rfl,hp⟩:=hv;clear hp hS;go_enter Tryz.func38,Tryz.ntmps38;go_wp2_with (at_make;refine wpList_make_own _ rfl _ _ 120 rfl w.heap.size 5 i0 (.int .u8 0) 1 Tryz.underlying120 hi ab ac .i64 .i64 _ 0 rfl rfl rfl (by rw[ad];omega) (by unfold maxLen;omega) (Y5 _) ?_;intro w0 am an);have ao:ZB w w0:=(Yu _ _).grown an (by simp) (by simp);clear an
 go_loopw [4,5] (fun v i wr=>∃(j:Nat) (acc:Bs),i=Zi j/\j<=h.length/\acc.length<=65536/\wr.ownsRow w.heap.size 5 1 v acc.length (Lib.byteCells acc)/\ZB w wr/\ZH (textR h 0 []=textR (h.drop j) j acc)) (fun _ i _=>h.length-(intOf i).toNat)
 case atStart=>exact⟨0,[],rfl,by omega,by simp,by simpa[Lib.byteCells]using am,ao,rfl⟩
 case round=>
  clear am ao;obtain⟨j,acc,rfl,M,aF,I,U,HJ⟩:=hrel;have aG:=U.size;by_cases az:j<h.length
  ·obtain⟨r,J⟩:=Ze (acc++(if 0<j then[32]else[]))
   have ap:=ay h[j] (by simp);have aH:(j:Int)<(h.length:Int):=by omega
   have t:=J0 HJ;rw[Yt az,textR,<-J]at t;obtain⟨G,ae⟩:=Ze (r++h[j])
   rw[<-ae]at t;obtain⟨X,hX⟩:=Ze (⟨h[j].toArray⟩:Zy)
   have aI:X.size<=1000000:=by rw[hX];show h[j].toArray.size<=_;simpa using ap
   have aq:Lib.byteCells r++Lib.strCells X=Lib.byteCells G:=by rw[cells_of_str,<-byteCells_append,ae,hX]
   have aA:r.length+X.size=G.length:=by rw[ae,hX,Y9];rfl
   have af:=J3 aq;have ag:=J3 aA;obtain⟨p',c',ar,au⟩:=J0 HV;obtain⟨g,o,aB,a0⟩:=au j h[j] (by simp);simp only[Value.slice.injEq]at ar;obtain⟨rfl,_,rfl⟩:=ar;subst aB;rw[<-hX]at a0;have av:=J2 a0;clear ap HJ ae hX aq au;by_cases ah:0<j
   ·have aC:0<(j:Int):=by omega
    rw[Ye ah]at J;have aD:r.length=acc.length+1:=by rw[J];simp
    clear ah;go_wp2_with (at_builtin;refine wpList_append_own _ rfl _ _ 120 rfl w.heap.size 5 i0 (.int .u8 0) 1 1 Tryz.underlying120 hi ab ac ad rfl (by decide) _ acc.length (Lib.byteCells acc) rfl ?own ⟨_,0,none⟩ 1 1 [.int .u8 32] rfl rfl ?news ?one ?c3 ?c4 ?c5 ?_)
    case own=>exact I.alloc _
    case news=>
     intro j u M
     match j,M with
     | 0,M=>simp at M;subst M;simp[Addr.add]
     | j+1,M=>simp at M
    case one=>intro u hu;simp at hu;subst hu;rfl
    case c3=>unfold maxLen;omega
    case c4=>omega
    case c5=>simp;omega
    intro v' w2 aw ax _;have ai:w2.ownsRow w.heap.size 5 1 v' r.length (Lib.byteCells r):=by rw[aD,J,zc0];exact aw
    have aj:ZB w w2:=(U.alloc (by omega) _).grown ax (by simp;omega) (fun q e=>(I.lt q e).1);have b0:=(aj.cell (p:=⟨g,_,none⟩) av).trans a0;clear ax aw a0;have aJ:=aj.size;by_cases V:65536<G.length
    ·have al:65536<(G.length:Int):=by omega
     rw[Ye V]at t;have L:ZH (JI (zdd h)=.tuple #[.string ⟨#[]⟩,Zi 2]):=by show _=_;rw[zdd,t];rfl
     clear t J V;go_wp2_with (at_builtin;refine Lib.wpList_append_own_string _ rfl _ _ 120 9 rfl w.heap.size 5 i0 Tryz.underlying120 Tryz.underlying9 hi ab ac ad _ r.length (Lib.byteCells r) rfl ai X rfl (by unfold maxLen;omega) (by omega) (by omega) ?_;intro v4 Y x Z _;rw[J0 af,J0 ag]at x;obtain⟨p4,c4,rfl,_⟩:=Jh x);go_ret2;have aa:ZB w Y:=aj.grown Z (by omega) (fun q e=>(ai.lt q e).1);exact⟨by rw[J0 L];rfl,aa⟩
    ·have al:(G.length:Int)<=65536:=by omega
     rw[Y7 V]at t;have HN:=J3 t;clear t J;go_wp2_with (at_builtin;refine Lib.wpList_append_own_string _ rfl _ _ 120 9 rfl w.heap.size 5 i0 Tryz.underlying120 Tryz.underlying9 hi ab ac ad _ r.length (Lib.byteCells r) rfl ai X rfl (by unfold maxLen;omega) (by omega) (by omega) ?_;intro v4 Y x Z _;rw[J0 af,J0 ag]at x;obtain⟨p4,c4,rfl,_⟩:=Jh x);have aa:ZB w Y:=aj.grown Z (by omega) (fun q e=>(ai.lt q e).1);go_roundw
     case rel=>exact⟨j+1,G,by go_num,by omega,by omega,x,aa,HN⟩
     case measure=>simp[intOf];omega
   ·have aC:(j:Int)<=0:=by omega
    rw[Y7 ah,X7]at J;subst J;have b0:=(U.cell (p:=⟨g,_,none⟩) av).trans a0;clear ah a0;by_cases V:65536<G.length
    ·have al:65536<(G.length:Int):=by omega
     rw[Ye V]at t;have L:ZH (JI (zdd h)=.tuple #[.string ⟨#[]⟩,Zi 2]):=by show _=_;rw[zdd,t];rfl
     clear t V;go_wp2_with (at_builtin;refine Lib.wpList_append_own_string _ rfl _ _ 120 9 rfl w.heap.size 5 i0 Tryz.underlying120 Tryz.underlying9 hi ab ac ad _ r.length (Lib.byteCells r) rfl I X rfl (by unfold maxLen;omega) (by omega) (by omega) ?_;intro v4 Y x Z _;rw[J0 af,J0 ag]at x;obtain⟨p4,c4,rfl,_⟩:=Jh x);go_ret2;have aa:ZB w Y:=U.grown Z (by omega) (fun q e=>(I.lt q e).1);exact⟨by rw[J0 L];rfl,aa⟩
    ·have al:(G.length:Int)<=65536:=by omega
     rw[Y7 V]at t;have HN:=J3 t;clear t;go_wp2_with (at_builtin;refine Lib.wpList_append_own_string _ rfl _ _ 120 9 rfl w.heap.size 5 i0 Tryz.underlying120 Tryz.underlying9 hi ab ac ad _ r.length (Lib.byteCells r) rfl I X rfl (by unfold maxLen;omega) (by omega) (by omega) ?_;intro v4 Y x Z _;rw[J0 af,J0 ag]at x;obtain⟨p4,c4,rfl,_⟩:=Jh x);have aa:ZB w Y:=U.grown Z (by omega) (fun q e=>(I.lt q e).1);go_roundw
     case rel=>exact⟨j+1,G,by go_num,by omega,by omega,x,aa,HN⟩
     case measure=>simp[intOf];omega
  ·have L:ZH (textR h 0 []=some acc):=by
    have e:=J0 HJ;rw[Yg (by omega)]at e;exact e
   clear HJ;obtain⟨p4,c4,rfl,_⟩:=Jh I;by_cases ak:4096<h.length
   ·have aE:4096<(h.length:Int):=by omega
    have HX:ZH (JI (zdd h)=.tuple #[.string ⟨#[]⟩,Zi 3]):=by
     show _=_;rw[zdd,J0 L];simp[ak,JI]
    clear ak L;go_wp2;go_ret2;exact⟨by rw[J0 HX];rfl,U⟩
   ·have aE:(h.length:Int)<=4096:=by omega
    have HX:ZH (JI (zdd h)=.tuple #[.string ⟨acc.toArray⟩,Zi 0]):=by
     show _=_;rw[zdd,J0 L];simp[ak,JI]
    have kc:=zg4 I;clear ak L;go_wp2;go_ret2;exact⟨by rw[J0 HX];rfl,U⟩
theorem fits_no (v:Value) (w:Zw):ZC 10 #[.string ⟨#[]⟩,Zi 1,.bool false,v] w (.bool true):=by
 go_enter Tryz.func10,Tryz.ntmps10;go_wp2;go_ret;exact⟨rfl,Zr⟩
theorem fits_yes (X:Zy) (y:Int) (v:Value) (c:List Bs) (w:Zw) (h:JI (zdd c)=.tuple #[.string X,Zi y]) (j:SRow w v c) (u:c.length<=1000000) (r:∀s∈c,s.length<=1000000) :
  ZC 10 #[.string X,Zi y,.bool true,v] w (.bool true):=by
 have g:=Text_any v c w j u r;rw[h]at g;have t:=J3 g;clear g h j r;go_enter Tryz.func10,Tryz.ntmps10;go_wp2_with (go_at_call 38;refine t.mono ?_;clear t;rintro x w1 ⟨rfl,G⟩);go_ret;exact⟨by simp,G⟩
end Go.Proofs.YtdcbglnhhbmpgaaGreatDoor
