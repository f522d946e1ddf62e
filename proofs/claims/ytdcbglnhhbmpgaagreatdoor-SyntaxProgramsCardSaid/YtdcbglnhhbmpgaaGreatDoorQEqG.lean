import Derived.Test.YtdcbglnhhbmpgaaGreatDoorQPartsG
import Derived.Lib.SlicesS
set_option maxHeartbeats 4000000
set_option maxRecDepth 100000
namespace Go.Proofs.YtdcbglnhhbmpgaaGreatDoor
open Go Go.RowKit Lx
theorem zfz {α:Type} {a b:List α} {k:Nat} (c:k<a.length) (g:k<b.length) (h:a.take k=b.take k) (e:a[k]=b[k]):a.take (k+1)=b.take (k+1):=by
 rw[Yq c,Yq g,h,e]
theorem bs_ne {a b:Bs} (h:a≠b):((⟨a.toArray⟩:Zy).toList==(⟨b.toArray⟩:Zy).toList)=false:=
 (Lib.bytes_beq_false_iff _ _).2 fun e=>h (by injection e with e;simpa using e)
theorem Texts_any (v u:Value) (a b:List Bs) (w:Zw) (hl:a.length<=140737488351232) (L:SRow w v a) (hu:SRow w u b) :
  ZC 109 #[v,u] w (.bool (decide (a=b))):=by
 obtain⟨p,c,rfl,hp⟩:=L;obtain⟨q,d,rfl,t⟩:=hu;have M:=J3 hp;have U:=J3 t;clear hp t;by_cases hlen:a.length=b.length
 ·rw[<-hlen];have x:=J3 hlen;clear hlen;go_enter Tryz.func109,Tryz.ntmps109;go_wp2
  go_loopw [5] (fun i wr=>∃k nd:Nat,i=Zi k/\k<=a.length/\wr=w.drewN nd/\ZH (a.take k=b.take k)) (fun i _=>a.length-(intOf i).toNat)
  case atStart=>exact⟨0,0,rfl,by omega,rfl,(by show _=_;simp)⟩
  case round=>
   obtain⟨k,nd,rfl,hk,rfl,G⟩:=hrel;by_cases I:k<a.length
   ·have J:k<b.length:=by have:=J0 x;omega
    obtain⟨g,o,rfl,a0⟩:=M k a[k] (by simp[I]);obtain⟨g',o',rfl,b0⟩:=U k b[k] (by simp[J]);have aa:(k:Int)<(a.length:Int):=by omega
    by_cases h:a[k]=b[k]
    ·have V:=J3 (zfz I J G h);rw[<-h]at b0;clear h;go_wp2;go_quiet (fail);go_wp2;go_roundw
     case rel=>exact⟨k+1,nd+nq,by go_num,by omega,by simp[World.drewN],V⟩
     case measure=>simp[intOf];omega
    ·have Z:=bs_ne h;have j:ZH (decide (a=b)=false):=Ym fun e=>h (by subst e;rfl)
     clear h;obtain⟨X,r⟩:=Ze (⟨a[k].toArray⟩:Zy)
     obtain⟨Y,s⟩:=Ze (⟨b[k].toArray⟩:Zy)
     rw[<-r,<-s]at Z;rw[<-r]at a0;rw[<-s]at b0;clear r s;go_wp2;go_quiet (fail);go_wp2;go_ret;exact⟨by rw[J0 j];rfl,Yw (Yw Zr _) _⟩
   ·have HT:ZH (decide (a=b)=true):=Xi (by
     have:=J0 G;have h2:=J0 x;rwa[YS (by omega),YS (by omega)]at this)
    go_wp2;go_ret;exact⟨by rw[J0 HT];rfl,Yw Zr _⟩
 ·have j:ZH (decide (a=b)=false):=Ym fun e=>hlen (by rw[e])
  have h1:((a.length:Int)==(b.length:Int))=false:=by rw[Y3];omega
  have h2:((a.length:Int) != (b.length:Int))=true:=by rw[bne,h1];rfl
  have h3:(a.length:Int)≠(b.length:Int):=by omega
  clear hlen;go_enter Tryz.func109,Tryz.ntmps109;go_wp2;go_ret;exact⟨by rw[J0 j];rfl,Zr⟩
theorem bools_any (v u:Value) (a b:List Bool) (w:Zw) (hl:a.length<=140737488351232) (L:BRow w v a) (hu:BRow w u b) :
  ZC 110 #[v,u] w (.bool (decide (a=b))):=by
 obtain⟨p,c,rfl,hp⟩:=L;obtain⟨q,d,rfl,t⟩:=hu;have M:=J3 hp;have U:=J3 t;clear hp t;by_cases hlen:a.length=b.length
 ·rw[<-hlen];have x:=J3 hlen;clear hlen;go_enter Tryz.func110,Tryz.ntmps110;go_wp2
  go_loopw [5] (fun i wr=>∃k nd:Nat,i=Zi k/\k<=a.length/\wr=w.drewN nd/\ZH (a.take k=b.take k)) (fun i _=>a.length-(intOf i).toNat)
  case atStart=>exact⟨0,0,rfl,by omega,rfl,(by show _=_;simp)⟩
  case round=>
   obtain⟨k,nd,rfl,hk,rfl,G⟩:=hrel;by_cases I:k<a.length
   ·have J:k<b.length:=by have:=J0 x;omega
    obtain⟨g,o,rfl,a0⟩:=M k a[k] (by simp[I]);obtain⟨g',o',rfl,b0⟩:=U k b[k] (by simp[J]);have aa:(k:Int)<(a.length:Int):=by omega
    by_cases h:a[k]=b[k]
    ·have V:=J3 (zfz I J G h);rw[<-h]at b0;clear h;obtain⟨X,j⟩:=Ze (a[k]:Bool)
     rw[<-j]at a0 b0;clear j;go_wp2;go_quiet (fail);go_wp2;go_roundw
     case rel=>exact⟨k+1,nd+nq,by go_num,by omega,by simp[World.drewN],V⟩
     case measure=>simp[intOf];omega
    ·have r:ZH (decide (a=b)=false):=Ym fun e=>h (by subst e;rfl)
     obtain⟨X,j⟩:=Ze (a[k]:Bool)
     obtain⟨Y,s⟩:=Ze (b[k]:Bool)
     rw[<-j,<-s]at h;rw[<-j]at a0;rw[<-s]at b0;have Z:(X==Y)=false:=Y3.2 h;have ab:(X != Y)=true:=by rw[bne,Z];rfl
     clear j s;go_wp2;go_quiet (fail);go_wp2;go_ret;exact⟨by rw[J0 r];rfl,Yw (Yw Zr _) _⟩
   ·have HT:ZH (decide (a=b)=true):=Xi (by
     have:=J0 G;have h2:=J0 x;rwa[YS (by omega),YS (by omega)]at this)
    go_wp2;go_ret;exact⟨by rw[J0 HT];rfl,Yw Zr _⟩
 ·have r:ZH (decide (a=b)=false):=Ym fun e=>hlen (by rw[e])
  have h1:((a.length:Int)==(b.length:Int))=false:=by rw[Y3];omega
  have h2:((a.length:Int) != (b.length:Int))=true:=by rw[bne,h1];rfl
  have h3:(a.length:Int)≠(b.length:Int):=by omega
  clear hlen;go_enter Tryz.func110,Tryz.ntmps110;go_wp2;go_ret;exact⟨by rw[J0 r];rfl,Zr⟩
def KTypeAt (d:Nat):Prop:=∀(a b:Ty d) (v u:Value) (w:Zw) (r:Bool),(r=true↔a=b)->TyValD w d v a->TyValD w d u b->WfD d a->WfD d b ->
 ZC 69 #[v,u] w (.bool r)
def KTypesAt (d:Nat):Prop:=∀(a b:List (Ty d)) (p q:Zo) (c e:Nat) (w:Zw) (r:Bool),(r=true↔a=b)->TyRow w d (.slice p a.length c) a->TyRow w d (.slice q b.length e) b->a.length<=140737488351232->(∀x∈a,WfD d x)->(∀x∈b,WfD d x) ->
 ZC 111 #[.slice p a.length c,.slice q b.length e] w (.bool r)
theorem Jb {B:Nat} {a w:Zw} (h:Below B a w):Below B a w.drew:=h.trans ⟨rfl,rfl,rfl,Y5 _,fun _ _=>rfl⟩
theorem JO {B:Nat} {w w':Zw} (h:Below B w.drew w'):Below B w w':=(Jb (Yu B w)).trans h
theorem zkw (d:Nat) (IH:KTypeAt d):KTypesAt d:=fun a b p q c c' w r L hv hu hl wa wb=>by
 have V:ZH (∀k (j:k<a.length),∃u,zi3 w p k u/\TyValD w d u a[k]/\WfD d a[k]):=fun k j=>by
  obtain⟨u,t,G⟩:=hv.at k j;exact⟨u,t,G,wa _ (by simp)⟩
 have Y:ZH (∀k (j:k<b.length),∃u,zi3 w q k u/\TyValD w d u b[k]/\WfD d b[k]):=fun k j=>by
  obtain⟨u,t,G⟩:=hu.at k j;exact⟨u,t,G,wb _ (by simp)⟩
 have Z:=J3 L;have HI:=J3 IH;clear hv hu wa wb L IH;by_cases hlen:a.length=b.length
 ·rw[<-hlen];have ab:=J3 hlen;clear hlen;go_enter Tryz.func111,Tryz.ntmps111;go_wp2
  go_loopw [5] (fun i wr=>∃k:Nat,i=Zi k/\k<=a.length/\ZB w wr/\ZH (a.take k=b.take k)) (fun i _=>a.length-(intOf i).toNat)
  case atStart=>exact⟨0,rfl,by omega,Zr,(by show _=_;simp)⟩
  case round=>
   obtain⟨k,rfl,j,h,HE⟩:=hrel;by_cases ac:k<a.length
   ·have ad:k<b.length:=by have:=J0 ab;omega
    obtain⟨x,⟨g,o,K',S',qn,qe,q3,nn,c1,ne,c2,n3,c3,rfl,rfl,a0,a1,a2,a3,a4⟩,hx,wx⟩:=V k ac;obtain⟨y,⟨I,o',K2,S2,rn,re,r3,ae,af,ne',ag,ah,ai,rfl,rfl,e0,e1,e2,e3,e4⟩,hy,wy⟩:=Y k ad;have aj:(k:Int)<(a.length:Int):=by omega
    have b0:=(h.cell (p:=⟨g,_,none⟩) (J2 a0)).trans a0;have b1:=(h.cell (p:=⟨g,_,none⟩) (J2 a1)).trans a1;have b2:=(h.cell (p:=⟨g,_,none⟩) (J2 a2)).trans a2;have b3:=(h.cell (p:=⟨g,_,none⟩) (J2 a3)).trans a3;have b4:=(h.cell (p:=⟨g,_,none⟩) (J2 a4)).trans a4;have f0:=(h.cell (p:=⟨I,_,none⟩) (J2 e0)).trans e0;have f1:=(h.cell (p:=⟨I,_,none⟩) (J2 e1)).trans e1;have f2:=(h.cell (p:=⟨I,_,none⟩) (J2 e2)).trans e2;have f3:=(h.cell (p:=⟨I,_,none⟩) (J2 e3)).trans e3;have f4:=(h.cell (p:=⟨I,_,none⟩) (J2 e4)).trans e4;have M:=J3 (fun(r:Bool) (L:r=true↔a[k]=b[k])=>J0 HI a[k] b[k] _ _ wr.drew r L (TyValD.below (Jb h) hx) (TyValD.below (Jb h) hy) wx wy);have U:=J3 h;clear a0 a1 a2 a3 a4 e0 e1 e2 e3 e4 hx hy wx wy h HI V Y;by_cases s:a[k]=b[k]
    ·have HX:=J3 (zfz ac ad HE s);have J:=J3 (J0 M true (by simp[s]));clear s M;go_wp2
     go_region_with (go_at_call 69;refine J.mono ?_;clear J;rintro x w1 ⟨rfl,aa⟩)
     all_goals
      go_wp2;go_roundw
      case rel=>exact⟨k+1,by go_num,by omega,U.trans (JO (aa.mono U.size)),HX⟩
      case measure=>simp[intOf];omega
    ·have HF:ZH (r=false):=by
      rcases r with _|_
      ·rfl
      ·exact absurd (Z.1 rfl) fun e=>s (by subst e;rfl)
     have J:=J3 (J0 M false (by simp[s]));clear s M;go_wp2
     go_region_with (go_at_call 69;refine J.mono ?_;clear J;rintro x w1 ⟨rfl,aa⟩)
     all_goals
      go_wp2;go_ret;exact⟨by rw[J0 HF];rfl,U.trans (JO (aa.mono U.size))⟩
   ·have HT:ZH (r=true):=Z.2 (by
     have:=J0 HE;have G:=J0 ab;rwa[YS (by omega),YS (by omega)]at this)
    go_wp2;go_ret;exact⟨by rw[J0 HT];rfl,h⟩
 ·have HF:ZH (r=false):=by
   rcases r with _|_
   ·rfl
   ·exact absurd (Z.1 rfl) fun e=>hlen (by rw[e])
  have t:((a.length:Int)==(b.length:Int))=false:=by rw[Y3];omega
  have G:((a.length:Int) != (b.length:Int))=true:=by rw[bne,t];rfl
  have h3:(a.length:Int)≠(b.length:Int):=by omega
  clear hlen V Y HI;go_enter Tryz.func111,Tryz.ntmps111;go_wp2;go_ret;exact⟨by rw[J0 HF];rfl,Zr⟩
theorem zl6 {K t:Int} {S S':Zy} {pn pe pp u c g:Zo} {nn ne np cn ce cp x ne' h G j r:Nat} {w wr:Zw} (I:Below ((w.alloc (zdj K S pn pe pp nn ne np cn ce cp)).alloc (zdj t S' u c g x ne' h G j r)).heap.size ((w.alloc (zdj K S pn pe pp nn ne np cn ce cp)).alloc (zdj t S' u c g x ne' h G j r)) wr) :
  (wr.cell? ⟨w.heap.size,3,none⟩=some (.slice pe ne ce)/\wr.cell? ⟨w.heap.size,4,none⟩=some (.slice pp np cp))/\(wr.cell? ⟨w.heap.size+1,3,none⟩=some (.slice c ne' j)/\wr.cell? ⟨w.heap.size+1,4,none⟩=some (.slice g h r)):=by
 have J:=ze4 (w:=w) (wr:=wr) (K:=K) (S:=S) (pn:=pn) (pe:=pe) (pp:=pp) (nn:=nn) (ne:=ne) (np:=np) (cn:=cn) (ce:=ce) (cp:=cp) ((Za _ _).trans (I.mono (by simp)));have s:=ze4 (w:=w.alloc (zdj K S pn pe pp nn ne np cn ce cp)) I;rw[World.size_alloc]at s;exact⟨⟨J.2.2.2.1,J.2.2.2.2⟩,⟨s.2.2.2.1,s.2.2.2.2⟩⟩
theorem ktype_of (d:Nat) (IH:KTypesAt d):KTypeAt (d+1):=fun a b v u w r hr hv hu M wb=>by
 obtain⟨pn,pe,pp,cn,ce,cp,rfl,r1,r2,r3⟩:=hv;obtain⟨ah,ai,ae,aj,ak,af,rfl,s1,s2,s3⟩:=hu;obtain⟨w1,w2,w3,w4,w5,w6⟩:=M;obtain⟨x1,x2,x3,x4,x5,x6⟩:=wb;obtain⟨K,S,ns,es,ts⟩:=a;obtain⟨K',S',U,V,ac⟩:=b;dsimp only at *;have al:r=true↔K=K'/\S=S'/\ns=U/\es=V/\ts=ac:=by rw[hr];exact⟨fun h=>by injection h with L s;injection s with s c;injection c with c g;injection g with g h5;exact⟨L,s,c,g,h5⟩,fun⟨L,s,c,g,h5⟩=>by subst L s c g h5;rfl⟩
 have t:=J3 al;have am:ZB w ((w.alloc (zdj K ⟨S.toArray⟩ pn pe pp ns.length es.length ts.length cn ce cp)).alloc (zdj K' ⟨S'.toArray⟩ ah ai ae U.length V.length ac.length aj ak af)):=(Za _ _).alloc (by simp) _;have Z:ZH (∀W,ZB w W->ZC 109 #[.slice pn ns.length cn,.slice ah U.length aj] W (.bool (decide (ns=U)))):=fun W I=>Texts_any _ _ ns U W w2 (r1.below I) (s1.below I)
 have aa:ZH (∀W,ZB w W->ZC 110 #[.slice pe es.length ce,.slice ai V.length ak] W (.bool (decide (es=V)))):=fun W I=>bools_any _ _ es V W w4 (r2.below I) (s2.below I)
 have ab:ZH (∀(r:Bool) W,(r=true↔ts=ac)->ZB w W->ZC 111 #[.slice pp ts.length cp,.slice ae ac.length af] W (.bool r)):=fun r W hr I=>IH ts ac pp ae cp af W r hr (TyRow.below I d r3) (TyRow.below I d s3) w5 w6 x6
 have j:=J3 am;clear r1 r2 r3 s1 s2 s3 w1 w2 w3 w4 w5 w6 x1 x2 x3 x4 x5 x6 IH hr al am;by_cases L:K=K'
 ·subst L;by_cases s:S=S'
  ·subst s;have J:=J3 (J0 Z _ j);by_cases c:ns=U
   ·rw[Xi c]at J;by_cases g:es=V
    ·rw[Xi g]at aa;have TY:=J3 (fun W=>J0 ab r W (by rw[J0 t];exact⟨fun h=>h.2.2.2.2,fun h=>⟨rfl,rfl,c,g,h⟩⟩));clear c g Z ab t;go_enter Tryz.func69,Tryz.ntmps69;go_wp2_with (first
      | (go_at_call 109;refine J.mono ?_;clear J;rintro x M ⟨rfl,G⟩;obtain⟨⟨d1,d2⟩,⟨d3,d4⟩⟩:=zl6 G;have BL:=J3 (J0 aa M (Zn j G)))
      | (go_at_call 110;refine BL.mono ?_;clear BL;rintro x wb ⟨rfl,ag⟩;have ad:=Zn G ag;obtain⟨⟨f1,f2⟩,⟨f3,f4⟩⟩:=zl6 ad;have TZ:=J3 (J0 TY wb (Zn j ad)))
      | (go_at_call 111;refine TZ.mono ?_;clear TZ;rintro x wc ⟨rfl,ao⟩))
     go_ret;exact⟨rfl,j.trans ((Zn ad ao).mono j.size)⟩
    ·rw[Ym g]at aa;obtain rfl:r=false:=by
      rcases r with _|_
      ·rfl
      ·exact absurd (t.1 rfl).2.2.2.1 g
     clear c g Z ab t;go_enter Tryz.func69,Tryz.ntmps69;go_wp2_with (first
      | (go_at_call 109;refine J.mono ?_;clear J;rintro x M ⟨rfl,G⟩;obtain⟨⟨d1,d2⟩,⟨d3,d4⟩⟩:=zl6 G;have BL:=J3 (J0 aa M (Zn j G)))
      | (go_at_call 110;refine BL.mono ?_;clear BL;rintro x wb ⟨rfl,ag⟩;have ad:=Zn G ag))
     go_ret;exact⟨rfl,Zn j ad⟩
   ·rw[Ym c]at J;obtain rfl:r=false:=by
     rcases r with _|_
     ·rfl
     ·exact absurd (t.1 rfl).2.2.1 c
    clear c Z ab t;go_enter Tryz.func69,Tryz.ntmps69;go_wp2_with (first
     | (go_at_call 109;refine J.mono ?_;clear J;rintro x M ⟨rfl,G⟩))
    go_ret;exact⟨rfl,Zn j G⟩
  ·obtain rfl:r=false:=by
    rcases r with _|_
    ·rfl
    ·exact absurd (t.1 rfl).2.1 s
   have an:=bs_ne s;obtain⟨X,hX⟩:=Ze (⟨S.toArray⟩:Zy)
   obtain⟨Y,hY⟩:=Ze (⟨S'.toArray⟩:Zy)
   rw[<-hX,<-hY]at an j;rw[<-hX,<-hY];clear hX hY s Z ab t aa;go_enter Tryz.func69,Tryz.ntmps69;go_wp2;go_ret;exact⟨rfl,j⟩
 ·obtain rfl:r=false:=by
   rcases r with _|_
   ·rfl
   ·exact absurd (t.1 rfl).1 L
  have an:(K==K')=false:=Y3.2 L;clear Z ab t aa;go_enter Tryz.func69,Tryz.ntmps69;go_wp2;go_ret;exact⟨rfl,j⟩
theorem zf5:∀d,KTypeAt d
 | 0=>fun t=>nomatch t
 | d+1=>ktype_of d (zkw d (zf5 d))
end Go.Proofs.YtdcbglnhhbmpgaaGreatDoor
