import Derived.Test.YtdcbglnhhbmpgaaGreatDoorQCdD
import Derived.Test.YtdcbglnhhbmpgaaGreatDoorQKX
set_option maxHeartbeats 2000000
set_option maxRecDepth 100000
namespace Go.Proofs.YtdcbglnhhbmpgaaGreatDoor
open Go Go.RowKit Lx
theorem kcodes_run (p q:Zo) (n c c':Nat) (w:Zw) (hn:n<=1000000)
  (t:∀k,k<n->∃(g o h j:Nat) (x y:C10),p=some ⟨g,o,none⟩/\q=some ⟨h,j,none⟩/\C10At w g (o+k*10) x/\C10At w h (j+k*10) y/\∀W,ZB w W->ZC 41 #[x.val,y.val,.bool true] W (.bool true)) :
  ZC 40 #[.slice p n c,.slice q n c',.bool true] w (.bool true):=by
 have u:=J3 t;clear t;go_enter Tryz.func40,Tryz.ntmps40;go_wp2
 go_loopg [7] n (fun gk i wr=>∃k:Nat,i=Zi k/\k+gk=n/\ZH (ZB w wr))
 case atStart=>exact⟨0,rfl,by omega,Zr⟩
 case round=>
  obtain⟨k,rfl,hk,r⟩:=hrel;by_cases aB:k<n
  ·have aC:(k:Int)<(n:Int):=by omega
   obtain⟨g,o,h,j,⟨G,I,J,L,M,U,⟨V,Y,Z,aa,ab,ac,ad,ae,af,ag,ah⟩,ai,nb1,aj⟩,⟨A2,O2,N2,ak,al,am,⟨K2,S2,an,ao,ap,aq,ar,au,av,aw,ax⟩,ay,az,aA⟩,rfl,rfl,⟨a0,a1,a2,a3,⟨a4,a5,a6,a7,a8⟩,a9⟩,⟨b0,b1,b2,b3,⟨b4,b5,b6,b7,b8⟩,b9⟩,hc⟩:=u k aB;have hw:=J0 r;have x0:wr.cell? ⟨g,o+k*10,none⟩=some (Zi G):=(hw.cell (p:=⟨g,_,none⟩) (J2 a0)).trans a0;have x1:wr.cell? ⟨g,o+k*10+1,none⟩=some (.string I):=(hw.cell (p:=⟨g,_,none⟩) (J2 a0)).trans a1;have x2:wr.cell? ⟨g,o+k*10+2,none⟩=some (.string J):=(hw.cell (p:=⟨g,_,none⟩) (J2 a0)).trans a2;have x3:wr.cell? ⟨g,o+k*10+3,none⟩=some (.slice L M U):=(hw.cell (p:=⟨g,_,none⟩) (J2 a0)).trans a3;have x4:wr.cell? ⟨g,o+k*10+4,none⟩=some (Zi V):=(hw.cell (p:=⟨g,_,none⟩) (J2 a0)).trans a4;have x5:wr.cell? ⟨g,o+k*10+5,none⟩=some (.string Y):=(hw.cell (p:=⟨g,_,none⟩) (J2 a0)).trans a5;have x6:wr.cell? ⟨g,o+k*10+6,none⟩=some (.slice Z ac ad):=(hw.cell (p:=⟨g,_,none⟩) (J2 a0)).trans a6;have x7:wr.cell? ⟨g,o+k*10+7,none⟩=some (.slice aa ae af):=(hw.cell (p:=⟨g,_,none⟩) (J2 a0)).trans a7;have x8:wr.cell? ⟨g,o+k*10+8,none⟩=some (.slice ab ag ah):=(hw.cell (p:=⟨g,_,none⟩) (J2 a0)).trans a8;have x9:wr.cell? ⟨g,o+k*10+9,none⟩=some (.slice ai nb1 aj):=(hw.cell (p:=⟨g,_,none⟩) (J2 a0)).trans a9;have y0:wr.cell? ⟨h,j+k*10,none⟩=some (Zi A2):=(hw.cell (p:=⟨h,_,none⟩) (J2 b0)).trans b0;have y1:wr.cell? ⟨h,j+k*10+1,none⟩=some (.string O2):=(hw.cell (p:=⟨h,_,none⟩) (J2 b0)).trans b1;have y2:wr.cell? ⟨h,j+k*10+2,none⟩=some (.string N2):=(hw.cell (p:=⟨h,_,none⟩) (J2 b0)).trans b2;have y3:wr.cell? ⟨h,j+k*10+3,none⟩=some (.slice ak al am):=(hw.cell (p:=⟨h,_,none⟩) (J2 b0)).trans b3;have y4:wr.cell? ⟨h,j+k*10+4,none⟩=some (Zi K2):=(hw.cell (p:=⟨h,_,none⟩) (J2 b0)).trans b4;have y5:wr.cell? ⟨h,j+k*10+5,none⟩=some (.string S2):=(hw.cell (p:=⟨h,_,none⟩) (J2 b0)).trans b5;have y6:wr.cell? ⟨h,j+k*10+6,none⟩=some (.slice an aq ar):=(hw.cell (p:=⟨h,_,none⟩) (J2 b0)).trans b6;have y7:wr.cell? ⟨h,j+k*10+7,none⟩=some (.slice ao au av):=(hw.cell (p:=⟨h,_,none⟩) (J2 b0)).trans b7;have y8:wr.cell? ⟨h,j+k*10+8,none⟩=some (.slice ap aw ax):=(hw.cell (p:=⟨h,_,none⟩) (J2 b0)).trans b8;have y9:wr.cell? ⟨h,j+k*10+9,none⟩=some (.slice ay az aA):=(hw.cell (p:=⟨h,_,none⟩) (J2 b0)).trans b9;have RK:ZH (∀W,ZB w W->ZC 41 #[(.agg #[Zi G,.string I,.string J,.slice L M U,Zi V,.string Y,.slice Z ac ad,.slice aa ae af,.slice ab ag ah,.slice ai nb1 aj]),(.agg #[Zi A2,.string O2,.string N2,.slice ak al am,Zi K2,.string S2,.slice an aq ar,.slice ao au av,.slice ap aw ax,.slice ay az aA]),.bool true] W (.bool true)):=hc;clear a0 a1 a2 a3 a4 a5 a6 a7 a8 a9 b0 b1 b2 b3 b4 b5 b6 b7 b8 b9 hw hc u;go_upto_region 6 with fail
   go_cut [29] (fun cv wx=>∃s:Zw,cv=.bool false/\s=wx/\ZH (ZB w s))
   case first=>
    go_region_with (go_at_call 41;refine(RK _ (zas r)).mono ?_;clear RK;rintro x w5 ⟨rfl,aD⟩)
    all_goals
     go_wp2_with fail;go_meet
     case rel=>exact⟨_,rfl,rfl,J3 ((zas r).trans (aD.mono (zas r).size))⟩
   case rest=>
    obtain⟨s,rfl,rfl,aE⟩:=hcut;go_wp2_with fail;go_roundg (n-(k+1))
    case measure=>omega
    case rel=>exact⟨k+1,by go_num,by omega,aE⟩
  ·have aC:¬(k:Int)<(n:Int):=by omega
   go_wp2_with fail;go_ret;exact⟨rfl,r⟩
theorem kprog_run (V A2 Y K2:Int) (Z N1 S1 O2 N2 S2:Zy) (aa ab ac ad ae af ag ah aw ax ay az aA aB aC aD:Zo) (nd nm nf ai aj ak aE aF aG al am an ao ap aq ar au nb1 av aH aI aJ aK aL aM aN aO aP aQ:Nat) (w:Zw)
  (hD:∀W,ZB w W->ZC 39 #[.slice aa nd ai,.slice aw nd aE,.bool true] W (.bool true))
  (hM:∀W,ZB w W->ZC 40 #[.slice ab nm aj,.slice ax nm aF,.bool true] W (.bool true))
  (hF:∀W,ZB w W->ZC 40 #[.slice ac nf ak,.slice ay nf aG,.bool true] W (.bool true))
  (hN:∀W,ZB w W->ZC 41 #[(.agg #[Zi V,.string Z,.string N1,.slice ad al am,Zi Y,.string S1,.slice ae an ao,.slice af ap aq,.slice ag ar au,.slice ah nb1 av]),(.agg #[Zi A2,.string O2,.string N2,.slice az aH aI,Zi K2,.string S2,.slice aA aJ aK,.slice aB aL aM,.slice aC aN aO,.slice aD aP aQ]),.bool true] W (.bool true)) :
  ZC 11 #[(.agg #[.slice aa nd ai,.slice ab nm aj,.slice ac nf ak,Zi V,.string Z,.string N1,.slice ad al am,Zi Y,.string S1,.slice ae an ao,.slice af ap aq,.slice ag ar au,.slice ah nb1 av]),(.agg #[.slice aw nd aE,.slice ax nm aF,.slice ay nf aG,Zi A2,.string O2,.string N2,.slice az aH aI,Zi K2,.string S2,.slice aA aJ aK,.slice aB aL aM,.slice aC aN aO,.slice aD aP aQ]),.bool true] w (.bool true):=by
 have RD:=J3 hD;have RM:=J3 hM;have RF:=J3 hF;have RN:=J3 hN;clear hD hM hF hN;go_enter Tryz.func11,Tryz.ntmps11;go_upto_region 1 with fail
 obtain⟨W0,aS⟩:∃W:Zw,W=(w.alloc (Obj.cells #[.slice aa nd ai,.slice ab nm aj,.slice ac nf ak,Zi V,.string Z,.string N1,.slice ad al am,Zi Y,.string S1,.slice ae an ao,.slice af ap aq,.slice ag ar au,.slice ah nb1 av] 36)).alloc (Obj.cells #[.slice aw nd aE,.slice ax nm aF,.slice ay nf aG,Zi A2,.string O2,.string N2,.slice az aH aI,Zi K2,.string S2,.slice aA aJ aK,.slice aB aL aM,.slice aC aN aO,.slice aD aP aQ] 36):=⟨_,rfl⟩
 obtain⟨g0,aT⟩:∃g:Nat,g=w.heap.size:=⟨_,rfl⟩
 obtain⟨g1,aU⟩:∃g:Nat,g=w.heap.size+1:=⟨_,rfl⟩
 have hz:(w.alloc (Obj.cells #[.slice aa nd ai,.slice ab nm aj,.slice ac nf ak,Zi V,.string Z,.string N1,.slice ad al am,Zi Y,.string S1,.slice ae an ao,.slice af ap aq,.slice ag ar au,.slice ah nb1 av] 36)).heap.size=g1:=by rw[aU];simp
 rw[<-aS,<-aU,<-aT];have C0:ZH ((ZL13 W0 g0 (.slice aa nd ai) (.slice ab nm aj) (.slice ac nf ak) (Zi V) (.string Z) (.string N1) (.slice ad al am) (Zi Y) (.string S1) (.slice ae an ao) (.slice af ap aq) (.slice ag ar au) (.slice ah nb1 av))/\(ZL13 W0 g1 (.slice aw nd aE) (.slice ax nm aF) (.slice ay nf aG) (Zi A2) (.string O2) (.string N2) (.slice az aH aI) (Zi K2) (.string S2) (.slice aA aJ aK) (.slice aB aL aM) (.slice aC aN aO) (.slice aD aP aQ))):=by
  rw[aS];refine⟨?_,?_⟩
  ·rw[aT];exact zbj (x:=⟨aa,nd,ai,ab,nm,aj,ac,nf,ak,⟨V,Z,N1,ad,al,am,⟨Y,S1,ae,af,ag,an,ao,ap,aq,ar,au⟩,ah,nb1,av⟩⟩) (Za _ _)
  ·rw[<-hz];exact zbj (x:=⟨aw,nd,aE,ax,nm,aF,ay,nf,aG,⟨A2,O2,N2,az,aH,aI,⟨K2,S2,aA,aB,aC,aJ,aK,aL,aM,aN,aO⟩,aD,aP,aQ⟩⟩) Zr
 have H0:ZH (ZB w W0):=by rw[aS];exact(Za _ _).alloc (by simp) _
 clear aS aT aU hz;have aR:ZH (∀W,ZB W0 W->ZB w W):=fun W h=>Zn H0 h
 have CC:ZH (∀W,ZB W0 W->(ZL13 W g0 (.slice aa nd ai) (.slice ab nm aj) (.slice ac nf ak) (Zi V) (.string Z) (.string N1) (.slice ad al am) (Zi Y) (.string S1) (.slice ae an ao) (.slice af ap aq) (.slice ag ar au) (.slice ah nb1 av))/\(ZL13 W g1 (.slice aw nd aE) (.slice ax nm aF) (.slice ay nf aG) (Zi A2) (.string O2) (.string N2) (.slice az aH aI) (Zi K2) (.string S2) (.slice aA aJ aK) (.slice aB aL aM) (.slice aC aN aO) (.slice aD aP aQ))):=fun W h=>⟨zc1 C0.1 h,zc1 C0.2 h⟩
 have c:ZH (ZB W0 W0):=Zr;obtain⟨⟨r,s,t,c3,c4,c5,u,G,I,J,L,M,U⟩,⟨d0,d1,d2,d3,d4,d5,d6,d7,d8,d9,d10,d11,d12⟩⟩:=J0 C0;go_wp2_with (first|(go_at_call 39;refine(RD _ (aR _ c)).mono ?_;clear RD;rintro x wq ⟨rfl,j⟩;replace c:=J3 (Zn c j);clear j;clear r s t c3 c4 c5 u G I J L M U d0 d1 d2 d3 d4 d5 d6 d7 d8 d9 d10 d11 d12;obtain⟨⟨r,s,t,c3,c4,c5,u,G,I,J,L,M,U⟩,⟨d0,d1,d2,d3,d4,d5,d6,d7,d8,d9,d10,d11,d12⟩⟩:=CC _ c)|(go_at_call 40;refine(RM _ (aR _ c)).mono ?_;clear RM;rintro x wq ⟨rfl,j⟩;replace c:=J3 (Zn c j);clear j;clear r s t c3 c4 c5 u G I J L M U d0 d1 d2 d3 d4 d5 d6 d7 d8 d9 d10 d11 d12;obtain⟨⟨r,s,t,c3,c4,c5,u,G,I,J,L,M,U⟩,⟨d0,d1,d2,d3,d4,d5,d6,d7,d8,d9,d10,d11,d12⟩⟩:=CC _ c)|(go_at_call 40;refine(RF _ (aR _ c)).mono ?_;clear RF;rintro x wq ⟨rfl,j⟩;replace c:=J3 (Zn c j);clear j;clear r s t c3 c4 c5 u G I J L M U d0 d1 d2 d3 d4 d5 d6 d7 d8 d9 d10 d11 d12;obtain⟨⟨r,s,t,c3,c4,c5,u,G,I,J,L,M,U⟩,⟨d0,d1,d2,d3,d4,d5,d6,d7,d8,d9,d10,d11,d12⟩⟩:=CC _ c)|(go_at_call 41;refine(RN _ (aR _ c)).mono ?_;clear RN;rintro x wq ⟨rfl,j⟩;replace c:=J3 (Zn c j);clear j;clear r s t c3 c4 c5 u G I J L M U d0 d1 d2 d3 d4 d5 d6 d7 d8 d9 d10 d11 d12;obtain⟨⟨r,s,t,c3,c4,c5,u,G,I,J,L,M,U⟩,⟨d0,d1,d2,d3,d4,d5,d6,d7,d8,d9,d10,d11,d12⟩⟩:=CC _ c));go_ret;exact⟨rfl,aR _ c⟩
section
variable {o:Oper} {a:Act} {w:Zw} {K:Act->Zw->Prop} {Q:Exit->Act->Zw->Prop}
theorem zdz {x:Operand} {b:Nat} (c:o.op=.fieldAddr 34 x 3) (g:a.eval x=.pointer (Zs b 0)) (h:K (a.put o.dst (.pointer (Zs b 3))) w):o.wp Tryz.prog a w K Q:=by
 unfold Oper.wp;simp only[execOp,c,g];go_simp;exact h
theorem zcq {x:Operand} {b i:Nat} {p:Zo} {n c:Nat} (g:o.op=.load 26 x) (j:a.eval x=.pointer (Zs b i)) (r:w.cell? ⟨b,i,none⟩=some (.slice p n c)) (h:K (a.put o.dst (.slice p n c)) w):o.wp Tryz.prog a w K Q:=by
 unfold Oper.wp;simp only[execOp,g,j];go_simp;exact h
theorem zda {x y:Operand} {g e:Nat} {n c k:Nat} (j:o.op=.indexAddr 26 x y) (r:a.eval x=.slice (Zs g e) n c) (s:a.eval y=Zi (k:Int)) (t:(k:Int)<(n:Int)) (h:K (a.put o.dst (.pointer (Zs g (e+k*6)))) w):o.wp Tryz.prog a w K Q:=by
 unfold Oper.wp;simp only[execOp,j,r,s];go_simp;exact h
theorem zgt {x:Operand} {b e:Nat} (c:o.op=.fieldAddr 94 x 0) (g:a.eval x=.pointer (Zs b e)) (h:K (a.put o.dst (.pointer (Zs b e))) w):o.wp Tryz.prog a w K Q:=by
 unfold Oper.wp;simp only[execOp,c,g];go_simp;exact h
theorem zh1 {x:Operand} {b e:Nat} (c:o.op=.fieldAddr 94 x 1) (g:a.eval x=.pointer (Zs b e)) (h:K (a.put o.dst (.pointer (Zs b (e+1)))) w):o.wp Tryz.prog a w K Q:=by
 unfold Oper.wp;simp only[execOp,c,g];go_simp;exact h
theorem zc8 {x:Operand} {b i:Nat} {c g j c3 c4:Value} (s:o.op=.load 31 x) (t:a.eval x=.pointer (Zs b i)) (r:ZK5 w b i c g j c3 c4) (h:K (a.put o.dst (.agg #[c,g,j,c3,c4])) w):o.wp Tryz.prog a w K Q:=by
 obtain⟨r,u,G,I,J⟩:=r;unfold Oper.wp;simp only[execOp,s,t];go_simp;exact h
theorem op_neqSS {x y:Operand} {s:Zy} (c:o.op=.binOp .neq 9 x y 9) (g:a.eval x=.string s) (j:a.eval y=.string s) (h:K (a.put o.dst (.bool false)) w):o.wp Tryz.prog a w K Q:=by
 unfold Oper.wp;simp only[execOp,c,g,j];go_simp;exact h
end
theorem kty_enter (args:Array Value) (w:Zw):Sem.run Tryz.prog (callFunc 69 args) w=.ok (.enter 69 args) w:=by kernel_rfl
def CoWf (E D d m:Nat) (c:Co E D d m):Prop:=(cPs c).length<=140737488351232/\(∀x∈cPs c,WfD E x.2)/\WfD E (zgv c)/\StWf D d m (zaf c)
theorem kcode_any (E D d m:Nat) (x y:C10) (c:Co E D d m) (w:Zw) (hv:CoIs w E D d m x c) (hu:CoIs w E D d m y c) (hf:CoWf E D d m c) :
  ZC 41 #[x.val,y.val,.bool true] w (.bool true):=by
 obtain⟨A,O,N,pq,nq,cq,⟨K,S,pn,pe,pp,nn,cn,ne,ce,np,cp⟩,pb,nb,cb⟩:=x;obtain⟨A2,O2,N2,an,G,ai,⟨V,Y,Z,aa,ab,ac,ad,ae,af,ag,ah⟩,ak,U,al⟩:=y;obtain⟨hA,hO,hN,hq,hT,J⟩:=hv;obtain⟨ar,au,av,aw,ax,ao⟩:=hu;obtain⟨f1,f2,f3,f4⟩:=hf;dsimp only at hA hO hN hq hT J ar au av aw ax ao;have ap:=hq.len;have aB:=aw.len;obtain rfl:A2=A:=ar.trans hA.symm;obtain rfl:O2=O:=au.trans hO.symm;obtain rfl:N2=N:=av.trans hN.symm;obtain rfl:G=nq:=aB.trans ap.symm;have ay:nb=(zaf c).length:=by
  obtain⟨p',c',e⟩:=J.slice;injection e
 have aC:U=(zaf c).length:=by
  obtain⟨p',c',e⟩:=ao.slice;injection e
 obtain rfl:U=nb:=aC.trans ay.symm;obtain⟨_,_,e,hp⟩:=hq;injection e with e1 e2 e3
 subst e1;obtain⟨_,_,e,aD⟩:=aw;injection e with e1 e4 e5
 subst e1;have HP:=J3 hp;have aE:=J3 aD;have KT:=J3 hT;have aF:=J3 ax;have KB:=J3 J;have aG:=J3 ao;have aK:=J3 ap;have aH:=J3 ay;have F2:=J3 f2;have F3:=J3 f3;have F4:=J3 f4;rw[<-ap]at f1;clear hA ar hO au hN av hp aD hT ax J ao ap aB ay aC e2 e3 e4 e5 f2 f3 f4;go_enter Tryz.func41,Tryz.ntmps41;go_upto_region 1 with fail
 obtain⟨W0,aq⟩:∃W:Zw,W=(w.alloc (Obj.cells #[Zi A2,.string O2,.string N2,.slice pq G cq,Zi K,.string S,.slice pn nn cn,.slice pe ne ce,.slice pp np cp,.slice pb U cb] 34)).alloc (Obj.cells #[Zi A2,.string O2,.string N2,.slice an G ai,Zi V,.string Y,.slice Z ac ad,.slice aa ae af,.slice ab ag ah,.slice ak U al] 34):=⟨_,rfl⟩
 obtain⟨g0,az⟩:∃g:Nat,g=w.heap.size:=⟨_,rfl⟩
 obtain⟨g1,aA⟩:∃g:Nat,g=w.heap.size+1:=⟨_,rfl⟩
 have hz:(w.alloc (Obj.cells #[Zi A2,.string O2,.string N2,.slice pq G cq,Zi K,.string S,.slice pn nn cn,.slice pe ne ce,.slice pp np cp,.slice pb U cb] 34)).heap.size=g1:=by rw[aA];simp
 rw[<-aq,<-aA,<-az];have C0:ZH ((ZL10 W0 g0 (Zi A2) (.string O2) (.string N2) (.slice pq G cq) (Zi K) (.string S) (.slice pn nn cn) (.slice pe ne ce) (.slice pp np cp) (.slice pb U cb))/\(ZL10 W0 g1 (Zi A2) (.string O2) (.string N2) (.slice an G ai) (Zi V) (.string Y) (.slice Z ac ad) (.slice aa ae af) (.slice ab ag ah) (.slice ak U al))):=by
  rw[aq];refine⟨?_,?_⟩
  ·rw[az];exact zbr (x:=⟨A2,O2,N2,pq,G,cq,⟨K,S,pn,pe,pp,nn,cn,ne,ce,np,cp⟩,pb,U,cb⟩) (Za _ _)
  ·rw[<-hz];exact zbr (x:=⟨A2,O2,N2,an,G,ai,⟨V,Y,Z,aa,ab,ac,ad,ae,af,ag,ah⟩,ak,U,al⟩) Zr
 have H0:ZH (ZB w W0):=by rw[aq];exact(Za _ _).alloc (by simp) _
 clear aq az aA hz;have aj:ZH (∀W,ZB W0 W->ZB w W):=fun W h=>Zn H0 h
 have CC:ZH (∀W,ZB W0 W->(ZL10 W g0 (Zi A2) (.string O2) (.string N2) (.slice pq G cq) (Zi K) (.string S) (.slice pn nn cn) (.slice pe ne ce) (.slice pp np cp) (.slice pb U cb))/\(ZL10 W g1 (Zi A2) (.string O2) (.string N2) (.slice an G ai) (Zi V) (.string Y) (.slice Z ac ad) (.slice aa ae af) (.slice ab ag ah) (.slice ak U al))):=fun W h=>⟨zbp C0.1 h,zbp C0.2 h⟩
 have RT:ZH (∀W,ZB W0 W->ZC 69 #[(.agg #[Zi K,.string S,.slice pn nn cn,.slice pe ne ce,.slice pp np cp]),(.agg #[Zi V,.string Y,.slice Z ac ad,.slice aa ae af,.slice ab ag ah])] W (.bool true)):=fun W h=>zf5 E _ _ _ _ W true (by simp) (TyValD.below (aj W h) KT) (TyValD.below (aj W h) aF) F3 F3
 have RS:ZH (∀W,ZB W0 W->ZC 70 #[.slice pb U cb,.slice ak U al,.bool true] W (.bool true)):=fun W h=>by
  have h1:=J0 KB;have h2:=J0 aG;have e:=J0 aH;rw[e]at h1 h2 ⊢;exact kstmts_any D d m _ _ _ _ _ W (StRow.below (aj W h) m h1) (StRow.below (aj W h) m h2) F4
 have L:ZH (ZB W0 W0):=Zr;clear KT aF KB aG aH F3 F4;obtain⟨⟨c0,c1,c2,c3,c4,c5,c6,c7,c8,c9⟩,⟨d0,d1,d2,d3,d4,d5,d6,d7,d8,d9⟩⟩:=J0 C0;go_wp2_with (first|(go_at_call 69;refine(RT _ L).mono ?_;clear RT;rintro x wq ⟨rfl,J⟩;replace L:=J3 (Zn L J);clear J;clear c0 c1 c2 c3 c4 c5 c6 c7 c8 c9 d0 d1 d2 d3 d4 d5 d6 d7 d8 d9;obtain⟨⟨c0,c1,c2,c3,c4,c5,c6,c7,c8,c9⟩,⟨d0,d1,d2,d3,d4,d5,d6,d7,d8,d9⟩⟩:=CC _ L)|(go_at_call 70;refine(RS _ L).mono ?_;clear RS;rintro x wq ⟨rfl,J⟩;replace L:=J3 (Zn L J);clear J;clear c0 c1 c2 c3 c4 c5 c6 c7 c8 c9 d0 d1 d2 d3 d4 d5 d6 d7 d8 d9;obtain⟨⟨c0,c1,c2,c3,c4,c5,c6,c7,c8,c9⟩,⟨d0,d1,d2,d3,d4,d5,d6,d7,d8,d9⟩⟩:=CC _ L));have HL:=L;clear L c0 c1 c2 c3 c4 c5 c6 c7 c8 c9 d0 d1 d2 d3 d4 d5 d6 d7 d8 d9
 go_loopg [7] G (fun gk i wr=>∃k:Nat,i=Zi k/\k+gk=G/\ZH (ZB W0 wr))
 case atStart=>exact⟨0,rfl,by omega,HL⟩
 case round=>
  obtain⟨k,rfl,hk,L⟩:=hrel;clear HL;obtain⟨⟨c0,c1,c2,c3,c4,c5,c6,c7,c8,c9⟩,⟨d0,d1,d2,d3,d4,d5,d6,d7,d8,d9⟩⟩:=CC _ L;by_cases aL:k<G
  ·have am:(k:Int)<(G:Int):=by omega
   have aI:k<(cPs c).length:=by have:=J0 aK;omega
   obtain⟨g,o,⟨K,S,pn,pe,pp,nn,cn,ne,ce,np,cp⟩,rfl,a0,a1,a2⟩:=HP k (cPs c)[k] (by simp[aI]);obtain⟨I,M,⟨V,Y,Z,aa,ab,ac,ad,ae,af,ag,ah⟩,rfl,b0,b1,b2⟩:=aE k (cPs c)[k] (by simp[aI]);have j1:=F2 (cPs c)[k] (by simp);obtain⟨s,hs⟩:=Ze ((cPs c)[k].1)
   rw[<-hs]at a0 b0;have cX:∀W,ZB W0 W->(ZK6 W g (o+k*6) (.string ⟨s.toArray⟩) (Zi K) (.string S) (.slice pn nn cn) (.slice pe ne ce) (.slice pp np cp))/\(ZK6 W I (M+k*6) (.string ⟨s.toArray⟩) (Zi V) (.string Y) (.slice Z ac ad) (.slice aa ae af) (.slice ab ag ah)):=fun W h=>by
    have hw:=aj W h;obtain⟨x1,x2,x3,x4,x5⟩:=a1.below hw;obtain⟨y1,y2,y3,y4,y5⟩:=b1.below hw;exact⟨⟨(hw.cell (p:=⟨g,_,none⟩) (J2 a0)).trans a0,x1,x2,x3,x4,x5⟩,⟨(hw.cell (p:=⟨I,_,none⟩) (J2 b0)).trans b0,y1,y2,y3,y4,y5⟩⟩
   have cB:∀W,ZB W0 W->W.cell? ⟨g0,3,none⟩=some (.slice (Zs g o) G cq)/\W.cell? ⟨g1,3,none⟩=some (.slice (Zs I M) G ai):=fun W h=>⟨(CC W h).1.2.2.2.1,(CC W h).2.2.2.2.1⟩
   have RK:ZH (∀W,ZB w W->ZC 69 #[(.agg #[Zi K,.string S,.slice pn nn cn,.slice pe ne ce,.slice pp np cp]),(.agg #[Zi V,.string Y,.slice Z ac ad,.slice aa ae af,.slice ab ag ah])] W (.bool true)):=fun W h=>zf5 E _ _ _ _ W true (by simp) (TyValD.below h a2) (TyValD.below h b2) j1 j1
   have rK:∀W,ZB W0 W->ZC 69 #[(.agg #[Zi K,.string S,.slice pn nn cn,.slice pe ne ce,.slice pp np cp]),(.agg #[Zi V,.string Y,.slice Z ac ad,.slice aa ae af,.slice ab ag ah])] W (.bool true):=fun W h=>J0 RK W (aj W h)
   clear a0 a1 a2 b0 b1 b2 hs j1 HP aE F2 RK;go_upto_region 6 with fail
   clear c0 c1 c2 c3 c4 c5 c6 c7 c8 c9 d0 d1 d2 d3 d4 d5 d6 d7 d8 d9;refine zlv (n:=94) Zk Zk Zk rfl (fun W=>ZB W0 W) (fun i v _=>v=([.pointer (Zs g0 3),.slice (Zs g o) G cq,Zi (k:Int),.pointer (Zs g (o+k*6)),.pointer (Zs g (o+k*6)),.string ⟨s.toArray⟩,.pointer (Zs g1 3),.slice (Zs I M) G ai,Zi (k:Int),.pointer (Zs I (M+k*6)),.pointer (Zs I (M+k*6)),.string ⟨s.toArray⟩,.bool false,.bool false,.pointer (Zs g0 3),.slice (Zs g o) G cq,Zi (k:Int),.pointer (Zs g (o+k*6)),.pointer (Zs g (o+k*6+1)),.agg #[Zi K,.string S,.slice pn nn cn,.slice pe ne ce,.slice pp np cp],.pointer (Zs g1 3),.slice (Zs I M) G ai,Zi (k:Int),.pointer (Zs I (M+k*6)),.pointer (Zs I (M+k*6+1)),.agg #[Zi V,.string Y,.slice Z ac ad,.slice aa ae af,.slice ab ag ah],.bool true,.bool false,.bool false]:List Value).getD i undef) (zas L) (fun W W' h J=>Zn h J) (fun i v W W' h _=>h) ?each ?fin
   case each=>
    refine⟨?_,?_,?_,?_,?_,?_,?_,?_,?_,?_,?_,?_,?_,?_,?_,?_,?_,?_,?_,?_,?_,?_,?_,?_,?_,?_,?_,?_,?_,trivial⟩
    ·exact fun j W hz u r t dep=>⟨J1 rfl,zdz rfl (show j.eval (.tmp 3)=Value.pointer (Zs g0 0)from r 3 Zk) ⟨_,rfl,Zr,rfl⟩⟩
    ·exact fun j W hz u r t dep=>⟨J1 rfl,zcq rfl (show j.eval (.tmp 65)=Value.pointer (Zs g0 3)from dep 0 65 Zk Zk) (cB W t).1 ⟨_,rfl,Zr,rfl⟩⟩
    ·exact fun j W hz u r t dep=>⟨J1 rfl,Jp rfl (show j.eval (.tmp 7)=Zi (k:Int)from r 7 Zk) ⟨_,rfl,Zr,rfl⟩⟩
    ·exact fun j W hz u r t dep=>⟨J1 rfl,zda rfl (show j.eval (.tmp 66)=Value.slice (Zs g o) G cq from dep 1 66 Zk Zk) (show j.eval (.tmp 67)=Zi (k:Int)from dep 2 67 Zk Zk) am ⟨_,rfl,Zr,rfl⟩⟩
    ·exact fun j W hz u r t dep=>⟨J1 rfl,zgt rfl (show j.eval (.tmp 68)=Value.pointer (Zs g (o+k*6))from dep 3 68 Zk Zk) ⟨_,rfl,Zr,rfl⟩⟩
    ·exact fun j W hz u r t dep=>⟨J1 rfl,zaz rfl (show j.eval (.tmp 69)=Value.pointer (Zs g (o+k*6))from dep 4 69 Zk Zk) (cX W t).1.1 ⟨_,rfl,Zr,rfl⟩⟩
    ·exact fun j W hz u r t dep=>⟨J1 rfl,zdz rfl (show j.eval (.tmp 4)=Value.pointer (Zs g1 0)from r 4 Zk) ⟨_,rfl,Zr,rfl⟩⟩
    ·exact fun j W hz u r t dep=>⟨J1 rfl,zcq rfl (show j.eval (.tmp 71)=Value.pointer (Zs g1 3)from dep 6 71 Zk Zk) (cB W t).2 ⟨_,rfl,Zr,rfl⟩⟩
    ·exact fun j W hz u r t dep=>⟨J1 rfl,Jp rfl (show j.eval (.tmp 7)=Zi (k:Int)from r 7 Zk) ⟨_,rfl,Zr,rfl⟩⟩
    ·exact fun j W hz u r t dep=>⟨J1 rfl,zda rfl (show j.eval (.tmp 72)=Value.slice (Zs I M) G ai from dep 7 72 Zk Zk) (show j.eval (.tmp 73)=Zi (k:Int)from dep 8 73 Zk Zk) am ⟨_,rfl,Zr,rfl⟩⟩
    ·exact fun j W hz u r t dep=>⟨J1 rfl,zgt rfl (show j.eval (.tmp 74)=Value.pointer (Zs I (M+k*6))from dep 9 74 Zk Zk) ⟨_,rfl,Zr,rfl⟩⟩
    ·exact fun j W hz u r t dep=>⟨J1 rfl,zaz rfl (show j.eval (.tmp 75)=Value.pointer (Zs I (M+k*6))from dep 10 75 Zk Zk) (cX W t).2.1 ⟨_,rfl,Zr,rfl⟩⟩
    ·exact fun j W hz u r t dep=>⟨J1 rfl,op_neqSS rfl (show j.eval (.tmp 70)=Value.string ⟨s.toArray⟩from dep 5 70 Zk Zk) (show j.eval (.tmp 76)=Value.string ⟨s.toArray⟩from dep 11 76 Zk Zk) ⟨_,rfl,Zr,rfl⟩⟩
    ·exact fun j W hz u r t dep=>⟨J1 rfl,Jp rfl (show j.eval (.tmp 77)=Value.bool false from dep 12 77 Zk Zk) ⟨_,rfl,Zr,rfl⟩⟩
    ·exact fun j W hz u r t dep=>⟨(Jg rfl Zk (by rw[hz];decide) (dep 13 78 Zk Zk)),zdz rfl (show j.eval (.tmp 3)=Value.pointer (Zs g0 0)from r 3 Zk) ⟨_,rfl,Zr,rfl⟩⟩
    ·exact fun j W hz u r t dep=>⟨(Jg rfl Zk (by rw[hz];decide) (dep 13 78 Zk Zk)),zcq rfl (show j.eval (.tmp 79)=Value.pointer (Zs g0 3)from dep 14 79 Zk Zk) (cB W t).1 ⟨_,rfl,Zr,rfl⟩⟩
    ·exact fun j W hz u r t dep=>⟨(Jg rfl Zk (by rw[hz];decide) (dep 13 78 Zk Zk)),Jp rfl (show j.eval (.tmp 7)=Zi (k:Int)from r 7 Zk) ⟨_,rfl,Zr,rfl⟩⟩
    ·exact fun j W hz u r t dep=>⟨(Jg rfl Zk (by rw[hz];decide) (dep 13 78 Zk Zk)),zda rfl (show j.eval (.tmp 80)=Value.slice (Zs g o) G cq from dep 15 80 Zk Zk) (show j.eval (.tmp 81)=Zi (k:Int)from dep 16 81 Zk Zk) am ⟨_,rfl,Zr,rfl⟩⟩
    ·exact fun j W hz u r t dep=>⟨(Jg rfl Zk (by rw[hz];decide) (dep 13 78 Zk Zk)),zh1 rfl (show j.eval (.tmp 82)=Value.pointer (Zs g (o+k*6))from dep 17 82 Zk Zk) ⟨_,rfl,Zr,rfl⟩⟩
    ·exact fun j W hz u r t dep=>⟨(Jg rfl Zk (by rw[hz];decide) (dep 13 78 Zk Zk)),zc8 rfl (show j.eval (.tmp 83)=Value.pointer (Zs g (o+k*6+1))from dep 18 83 Zk Zk) (cX W t).1.2 ⟨_,rfl,Zr,rfl⟩⟩
    ·exact fun j W hz u r t dep=>⟨(Jg rfl Zk (by rw[hz];decide) (dep 13 78 Zk Zk)),zdz rfl (show j.eval (.tmp 4)=Value.pointer (Zs g1 0)from r 4 Zk) ⟨_,rfl,Zr,rfl⟩⟩
    ·exact fun j W hz u r t dep=>⟨(Jg rfl Zk (by rw[hz];decide) (dep 13 78 Zk Zk)),zcq rfl (show j.eval (.tmp 85)=Value.pointer (Zs g1 3)from dep 20 85 Zk Zk) (cB W t).2 ⟨_,rfl,Zr,rfl⟩⟩
    ·exact fun j W hz u r t dep=>⟨(Jg rfl Zk (by rw[hz];decide) (dep 13 78 Zk Zk)),Jp rfl (show j.eval (.tmp 7)=Zi (k:Int)from r 7 Zk) ⟨_,rfl,Zr,rfl⟩⟩
    ·exact fun j W hz u r t dep=>⟨(Jg rfl Zk (by rw[hz];decide) (dep 13 78 Zk Zk)),zda rfl (show j.eval (.tmp 86)=Value.slice (Zs I M) G ai from dep 21 86 Zk Zk) (show j.eval (.tmp 87)=Zi (k:Int)from dep 22 87 Zk Zk) am ⟨_,rfl,Zr,rfl⟩⟩
    ·exact fun j W hz u r t dep=>⟨(Jg rfl Zk (by rw[hz];decide) (dep 13 78 Zk Zk)),zh1 rfl (show j.eval (.tmp 88)=Value.pointer (Zs I (M+k*6))from dep 23 88 Zk Zk) ⟨_,rfl,Zr,rfl⟩⟩
    ·exact fun j W hz u r t dep=>⟨(Jg rfl Zk (by rw[hz];decide) (dep 13 78 Zk Zk)),zc8 rfl (show j.eval (.tmp 89)=Value.pointer (Zs I (M+k*6+1))from dep 24 89 Zk Zk) (cX W t).2.2 ⟨_,rfl,Zr,rfl⟩⟩
    ·exact fun j W hz u r t dep=>⟨(Jg rfl Zk (by rw[hz];decide) (dep 13 78 Zk Zk)),zdt rfl (show j.eval (.tmp 84)=Value.agg #[Zi K,.string S,.slice pn nn cn,.slice pe ne ce,.slice pp np cp]from dep 19 84 Zk Zk) (show j.eval (.tmp 90)=Value.agg #[Zi V,.string Y,.slice Z ac ad,.slice aa ae af,.slice ab ag ah]from dep 25 90 Zk Zk) kty_enter ((rK W t).mono fun e w' ⟨he,J⟩=>⟨_,he,_,rfl,J,rfl⟩)⟩
    ·exact fun j W hz u r t dep=>⟨(Jg rfl Zk (by rw[hz];decide) (dep 13 78 Zk Zk)),op_not rfl (show j.eval (.tmp 91)=Value.bool true from dep 26 91 Zk Zk) ⟨_,rfl,Zr,rfl⟩⟩
    ·exact fun j W hz u r t dep=>⟨J1 rfl,op_pick rfl (show j.eval (.tmp 78)=Value.bool false from dep 13 78 Zk Zk) (show(if false=true then _ else j.eval (.tmp 92))=Value.bool false from dep 27 92 Zk Zk) ⟨_,rfl,Zr,rfl⟩⟩
   case fin=>
    intro j W hz u r t dep;have aJ:j.tmps.getD 93 undef=.bool false:=dep 28 93 Zk;rw[JZ hz rfl u r];clear dep r rK cX cB;simp only[List.foldl,Option.getD];rw[aJ];generalize j.tmps.getD 65 undef=v65;generalize j.tmps.getD 66 undef=v66;generalize j.tmps.getD 67 undef=v67;generalize j.tmps.getD 68 undef=v68;generalize j.tmps.getD 69 undef=v69;generalize j.tmps.getD 70 undef=v70;generalize j.tmps.getD 71 undef=v71;generalize j.tmps.getD 72 undef=v72;generalize j.tmps.getD 73 undef=v73;generalize j.tmps.getD 74 undef=v74;generalize j.tmps.getD 75 undef=v75;generalize j.tmps.getD 76 undef=v76;generalize j.tmps.getD 77 undef=v77;generalize j.tmps.getD 78 undef=v78;generalize j.tmps.getD 79 undef=v79;generalize j.tmps.getD 80 undef=v80;generalize j.tmps.getD 81 undef=v81;generalize j.tmps.getD 82 undef=v82;generalize j.tmps.getD 83 undef=v83;generalize j.tmps.getD 84 undef=v84;generalize j.tmps.getD 85 undef=v85;generalize j.tmps.getD 86 undef=v86;generalize j.tmps.getD 87 undef=v87;generalize j.tmps.getD 88 undef=v88;generalize j.tmps.getD 89 undef=v89;generalize j.tmps.getD 90 undef=v90;generalize j.tmps.getD 91 undef=v91;generalize j.tmps.getD 92 undef=v92;clear hz u aJ j;simp only[Act.put,Xf,Xu,List.set_cons_succ];go_wp2_with fail;go_roundg (G-(k+1))
    case measure=>omega
    case rel=>exact⟨k+1,by go_num,by omega,J3 t⟩
  ·have am:¬(k:Int)<(G:Int):=by omega
   go_wp2_with fail;go_ret;exact⟨rfl,aj _ L⟩
section
variable {o:Oper} {a:Act} {w:Zw} {K:Act->Zw->Prop} {Q:Exit->Act->Zw->Prop}
theorem zc6 {x y:Operand} {g e:Nat} {n c k:Nat} (j:o.op=.indexAddr 22 x y) (r:a.eval x=.slice (Zs g e) n c) (s:a.eval y=Zi (k:Int)) (t:(k:Int)<(n:Int)) (h:K (a.put o.dst (.pointer (Zs g (e+k*7)))) w):o.wp Tryz.prog a w K Q:=by
 unfold Oper.wp;simp only[execOp,j,r,s];go_simp;exact h
theorem op_fieldD0 {x:Operand} {b e:Nat} (c:o.op=.fieldAddr 52 x 0) (g:a.eval x=.pointer (Zs b e)) (h:K (a.put o.dst (.pointer (Zs b e))) w):o.wp Tryz.prog a w K Q:=by
 unfold Oper.wp;simp only[execOp,c,g];go_simp;exact h
theorem zgh {x:Operand} {b e:Nat} (c:o.op=.fieldAddr 52 x 1) (g:a.eval x=.pointer (Zs b e)) (h:K (a.put o.dst (.pointer (Zs b (e+1)))) w):o.wp Tryz.prog a w K Q:=by
 unfold Oper.wp;simp only[execOp,c,g];go_simp;exact h
theorem zgu {x:Operand} {b e:Nat} (c:o.op=.fieldAddr 52 x 2) (g:a.eval x=.pointer (Zs b e)) (h:K (a.put o.dst (.pointer (Zs b (e+2)))) w):o.wp Tryz.prog a w K Q:=by
 unfold Oper.wp;simp only[execOp,c,g];go_simp;exact h
theorem op_fieldA {x:Operand} {b e:Nat} (c:o.op=.fieldAddr 25 x 0) (g:a.eval x=.pointer (Zs b e)) (h:K (a.put o.dst (.pointer (Zs b e))) w):o.wp Tryz.prog a w K Q:=by
 unfold Oper.wp;simp only[execOp,c,g];go_simp;exact h
theorem op_loadA {x:Operand} {b i:Nat} {n:Int} (c:o.op=.load 3 x) (g:a.eval x=.pointer (Zs b i)) (j:w.cell? ⟨b,i,none⟩=some (Zi n)) (h:K (a.put o.dst (Zi n)) w):o.wp Tryz.prog a w K Q:=by
 unfold Oper.wp;simp only[execOp,c,g];go_simp;exact h
theorem op_neqI {x y:Operand} {n:Int} (c:o.op=.binOp .neq 3 x y 3) (g:a.eval x=Zi n) (j:a.eval y=Zi n) (h:K (a.put o.dst (.bool false)) w):o.wp Tryz.prog a w K Q:=by
 unfold Oper.wp;simp only[execOp,c,g,j];go_simp;exact h
end
theorem kdefs_any (E:Nat) (p q:Zo) (n c J:Nat) (L:List (De E)) (w:Zw) (hv:DeRow w E (.slice p n c) L) (hu:DeRow w E (.slice q n J) L) (hl:n<=1000000) (hf:∀x∈L,WfD E x.2.2) :
  ZC 39 #[.slice p n c,.slice q n J,.bool true] w (.bool true):=by
 have hn:=hv.len;obtain⟨_,_,e,hp⟩:=hv;injection e with e1 e2 e3
 subst e1;obtain⟨_,_,e,ai⟩:=hu;injection e with e1 e4 e5
 subst e1;have HP:=J3 hp;have aj:=J3 ai;have HF:=J3 hf;have KN:=J3 hn;clear hp ai hf hn e2 e3 e4 e5;go_enter Tryz.func39,Tryz.ntmps39;go_wp2
 go_loopg [7] n (fun gk i wr=>∃k:Nat,i=Zi k/\k+gk=n/\ZH (ZB w wr))
 case atStart=>exact⟨0,rfl,by omega,Zr⟩
 case round=>
  obtain⟨k,rfl,hk,HB⟩:=hrel;by_cases am:k<n
  ·have M:(k:Int)<(n:Int):=by omega
   have ak:k<L.length:=by have:=J0 KN;omega
   obtain⟨g,o,⟨K,S,pn,pe,pp,nn,cn,ne,ce,np,cp⟩,rfl,a0,a9,a1,a2⟩:=HP k L[k] (by simp[ak]);obtain⟨G,I,⟨V,Y,Z,aa,ab,ac,ad,ae,af,ag,ah⟩,rfl,b0,b9,b1,b2⟩:=aj k L[k] (by simp[ak]);have j1:=HF L[k] (by simp);obtain⟨A,hA⟩:∃a,a=L[k].1:=⟨_,rfl⟩
   obtain⟨s,hs⟩:=Ze (L[k].2.1)
   rw[<-hA]at a0 b0;rw[<-hs]at a9 b9;have U:∀W,ZB w W->(ZK7 W g (o+k*7) (Zi A) (.string ⟨s.toArray⟩) (Zi K) (.string S) (.slice pn nn cn) (.slice pe ne ce) (.slice pp np cp))/\(ZK7 W G (I+k*7) (Zi A) (.string ⟨s.toArray⟩) (Zi V) (.string Y) (.slice Z ac ad) (.slice aa ae af) (.slice ab ag ah)):=fun W hw=>by
    obtain⟨x1,x2,x3,x4,x5⟩:=a1.below hw;obtain⟨y1,y2,y3,y4,y5⟩:=b1.below hw;exact⟨⟨(hw.cell (p:=⟨g,_,none⟩) (J2 a0)).trans a0,(hw.cell (p:=⟨g,_,none⟩) (J2 a9)).trans a9,x1,x2,x3,x4,x5⟩,⟨(hw.cell (p:=⟨G,_,none⟩) (J2 b0)).trans b0,(hw.cell (p:=⟨G,_,none⟩) (J2 b9)).trans b9,y1,y2,y3,y4,y5⟩⟩
   have rK:∀W,ZB w W->ZC 69 #[.agg #[Zi K,.string S,.slice pn nn cn,.slice pe ne ce,.slice pp np cp],.agg #[Zi V,.string Y,.slice Z ac ad,.slice aa ae af,.slice ab ag ah]] W (.bool true):=fun W h=>zf5 E _ _ _ _ W true (by simp) (TyValD.below h a2) (TyValD.below h b2) j1 j1
   clear a0 a1 a2 a9 b0 b1 b2 b9 hs hA j1 HP aj HF;go_upto_region 6 with fail
   refine zlv (n:=62) Zk Zk Zk rfl (fun W=>ZB w W) (fun i v _=>v=([.slice (Zs g o) n c,Zi (k:Int),.pointer (Zs g (o+k*7)),.pointer (Zs g (o+k*7+1)),.string ⟨s.toArray⟩,.slice (Zs G I) n J,Zi (k:Int),.pointer (Zs G (I+k*7)),.pointer (Zs G (I+k*7+1)),.string ⟨s.toArray⟩,.bool false,.bool false,.bool true,.bool true,.slice (Zs g o) n c,Zi (k:Int),.pointer (Zs g (o+k*7)),.pointer (Zs g (o+k*7)),.pointer (Zs g (o+k*7)),Zi A,.slice (Zs G I) n J,Zi (k:Int),.pointer (Zs G (I+k*7)),.pointer (Zs G (I+k*7)),.pointer (Zs G (I+k*7)),Zi A,.bool false,.bool false,.bool false,.bool false,.slice (Zs g o) n c,Zi (k:Int),.pointer (Zs g (o+k*7)),.pointer (Zs g (o+k*7+2)),.agg #[Zi K,.string S,.slice pn nn cn,.slice pe ne ce,.slice pp np cp],.slice (Zs G I) n J,Zi (k:Int),.pointer (Zs G (I+k*7)),.pointer (Zs G (I+k*7+2)),.agg #[Zi V,.string Y,.slice Z ac ad,.slice aa ae af,.slice ab ag ah],.bool true,.bool false,.bool false]:List Value).getD i undef) (zas HB) (fun W W' h hb=>Zn h hb) (fun i v W W' h _=>h) ?each ?fin
   case each=>
    refine⟨?_,?_,?_,?_,?_,?_,?_,?_,?_,?_,?_,?_,?_,?_,?_,?_,?_,?_,?_,?_,?_,?_,?_,?_,?_,?_,?_,?_,?_,?_,?_,?_,?_,?_,?_,?_,?_,?_,?_,?_,?_,?_,?_,trivial⟩
    ·exact fun j W hz u r t dep=>⟨J1 rfl,Jp rfl (show j.eval (.tmp 0)=Value.slice (Zs g o) n c from r 0 Zk) ⟨_,rfl,Zr,rfl⟩⟩
    ·exact fun j W hz u r t dep=>⟨J1 rfl,Jp rfl (show j.eval (.tmp 7)=Zi (k:Int)from r 7 Zk) ⟨_,rfl,Zr,rfl⟩⟩
    ·exact fun j W hz u r t dep=>⟨J1 rfl,zc6 rfl (show j.eval (.tmp 19)=Value.slice (Zs g o) n c from dep 0 19 Zk Zk) (show j.eval (.tmp 20)=Zi (k:Int)from dep 1 20 Zk Zk) M ⟨_,rfl,Zr,rfl⟩⟩
    ·exact fun j W hz u r t dep=>⟨J1 rfl,zgh rfl (show j.eval (.tmp 21)=Value.pointer (Zs g (o+k*7))from dep 2 21 Zk Zk) ⟨_,rfl,Zr,rfl⟩⟩
    ·exact fun j W hz u r t dep=>⟨J1 rfl,zaz rfl (show j.eval (.tmp 22)=Value.pointer (Zs g (o+k*7+1))from dep 3 22 Zk Zk) (U W t).1.2.1 ⟨_,rfl,Zr,rfl⟩⟩
    ·exact fun j W hz u r t dep=>⟨J1 rfl,Jp rfl (show j.eval (.tmp 1)=Value.slice (Zs G I) n J from r 1 Zk) ⟨_,rfl,Zr,rfl⟩⟩
    ·exact fun j W hz u r t dep=>⟨J1 rfl,Jp rfl (show j.eval (.tmp 7)=Zi (k:Int)from r 7 Zk) ⟨_,rfl,Zr,rfl⟩⟩
    ·exact fun j W hz u r t dep=>⟨J1 rfl,zc6 rfl (show j.eval (.tmp 24)=Value.slice (Zs G I) n J from dep 5 24 Zk Zk) (show j.eval (.tmp 25)=Zi (k:Int)from dep 6 25 Zk Zk) M ⟨_,rfl,Zr,rfl⟩⟩
    ·exact fun j W hz u r t dep=>⟨J1 rfl,zgh rfl (show j.eval (.tmp 26)=Value.pointer (Zs G (I+k*7))from dep 7 26 Zk Zk) ⟨_,rfl,Zr,rfl⟩⟩
    ·exact fun j W hz u r t dep=>⟨J1 rfl,zaz rfl (show j.eval (.tmp 27)=Value.pointer (Zs G (I+k*7+1))from dep 8 27 Zk Zk) (U W t).2.2.1 ⟨_,rfl,Zr,rfl⟩⟩
    ·exact fun j W hz u r t dep=>⟨J1 rfl,op_neqSS rfl (show j.eval (.tmp 23)=Value.string ⟨s.toArray⟩from dep 4 23 Zk Zk) (show j.eval (.tmp 28)=Value.string ⟨s.toArray⟩from dep 9 28 Zk Zk) ⟨_,rfl,Zr,rfl⟩⟩
    ·exact fun j W hz u r t dep=>⟨J1 rfl,Jp rfl (show j.eval (.tmp 29)=Value.bool false from dep 10 29 Zk Zk) ⟨_,rfl,Zr,rfl⟩⟩
    ·exact fun j W hz u r t dep=>⟨Jg rfl (d:=30) Zk (by rw[hz];decide) (dep 11 30 Zk Zk),Jp rfl (show j.eval (.tmp 2)=Value.bool true from r 2 Zk) ⟨_,rfl,Zr,rfl⟩⟩
    ·exact fun j W hz u r t dep=>⟨Jg rfl (d:=30) Zk (by rw[hz];decide) (dep 11 30 Zk Zk),Jp rfl (show j.eval (.tmp 31)=Value.bool true from dep 12 31 Zk Zk) ⟨_,rfl,Zr,rfl⟩⟩
    ·exact fun j W hz u r t dep=>⟨Jg rfl (d:=32) Zk (by rw[hz];decide) (dep 13 32 Zk Zk),Jp rfl (show j.eval (.tmp 0)=Value.slice (Zs g o) n c from r 0 Zk) ⟨_,rfl,Zr,rfl⟩⟩
    ·exact fun j W hz u r t dep=>⟨Jg rfl (d:=32) Zk (by rw[hz];decide) (dep 13 32 Zk Zk),Jp rfl (show j.eval (.tmp 7)=Zi (k:Int)from r 7 Zk) ⟨_,rfl,Zr,rfl⟩⟩
    ·exact fun j W hz u r t dep=>⟨Jg rfl (d:=32) Zk (by rw[hz];decide) (dep 13 32 Zk Zk),zc6 rfl (show j.eval (.tmp 33)=Value.slice (Zs g o) n c from dep 14 33 Zk Zk) (show j.eval (.tmp 34)=Zi (k:Int)from dep 15 34 Zk Zk) M ⟨_,rfl,Zr,rfl⟩⟩
    ·exact fun j W hz u r t dep=>⟨Jg rfl (d:=32) Zk (by rw[hz];decide) (dep 13 32 Zk Zk),op_fieldD0 rfl (show j.eval (.tmp 35)=Value.pointer (Zs g (o+k*7))from dep 16 35 Zk Zk) ⟨_,rfl,Zr,rfl⟩⟩
    ·exact fun j W hz u r t dep=>⟨Jg rfl (d:=32) Zk (by rw[hz];decide) (dep 13 32 Zk Zk),op_fieldA rfl (show j.eval (.tmp 36)=Value.pointer (Zs g (o+k*7))from dep 17 36 Zk Zk) ⟨_,rfl,Zr,rfl⟩⟩
    ·exact fun j W hz u r t dep=>⟨Jg rfl (d:=32) Zk (by rw[hz];decide) (dep 13 32 Zk Zk),op_loadA rfl (show j.eval (.tmp 37)=Value.pointer (Zs g (o+k*7))from dep 18 37 Zk Zk) (U W t).1.1 ⟨_,rfl,Zr,rfl⟩⟩
    ·exact fun j W hz u r t dep=>⟨Jg rfl (d:=32) Zk (by rw[hz];decide) (dep 13 32 Zk Zk),Jp rfl (show j.eval (.tmp 1)=Value.slice (Zs G I) n J from r 1 Zk) ⟨_,rfl,Zr,rfl⟩⟩
    ·exact fun j W hz u r t dep=>⟨Jg rfl (d:=32) Zk (by rw[hz];decide) (dep 13 32 Zk Zk),Jp rfl (show j.eval (.tmp 7)=Zi (k:Int)from r 7 Zk) ⟨_,rfl,Zr,rfl⟩⟩
    ·exact fun j W hz u r t dep=>⟨Jg rfl (d:=32) Zk (by rw[hz];decide) (dep 13 32 Zk Zk),zc6 rfl (show j.eval (.tmp 39)=Value.slice (Zs G I) n J from dep 20 39 Zk Zk) (show j.eval (.tmp 40)=Zi (k:Int)from dep 21 40 Zk Zk) M ⟨_,rfl,Zr,rfl⟩⟩
    ·exact fun j W hz u r t dep=>⟨Jg rfl (d:=32) Zk (by rw[hz];decide) (dep 13 32 Zk Zk),op_fieldD0 rfl (show j.eval (.tmp 41)=Value.pointer (Zs G (I+k*7))from dep 22 41 Zk Zk) ⟨_,rfl,Zr,rfl⟩⟩
    ·exact fun j W hz u r t dep=>⟨Jg rfl (d:=32) Zk (by rw[hz];decide) (dep 13 32 Zk Zk),op_fieldA rfl (show j.eval (.tmp 42)=Value.pointer (Zs G (I+k*7))from dep 23 42 Zk Zk) ⟨_,rfl,Zr,rfl⟩⟩
    ·exact fun j W hz u r t dep=>⟨Jg rfl (d:=32) Zk (by rw[hz];decide) (dep 13 32 Zk Zk),op_loadA rfl (show j.eval (.tmp 43)=Value.pointer (Zs G (I+k*7))from dep 24 43 Zk Zk) (U W t).2.1 ⟨_,rfl,Zr,rfl⟩⟩
    ·exact fun j W hz u r t dep=>⟨Jg rfl (d:=32) Zk (by rw[hz];decide) (dep 13 32 Zk Zk),op_neqI rfl (show j.eval (.tmp 38)=Zi A from dep 19 38 Zk Zk) (show j.eval (.tmp 44)=Zi A from dep 25 44 Zk Zk) ⟨_,rfl,Zr,rfl⟩⟩
    ·exact fun j W hz u r t dep=>⟨Jg rfl (d:=30) Zk (by rw[hz];decide) (dep 11 30 Zk Zk),op_pick rfl (show j.eval (.tmp 32)=Value.bool true from dep 13 32 Zk Zk) (show(if true=true then j.eval (.tmp 45)else _)=Value.bool false from dep 26 45 Zk Zk) ⟨_,rfl,Zr,rfl⟩⟩
    ·exact fun j W hz u r t dep=>⟨J1 rfl,op_pick rfl (show j.eval (.tmp 30)=Value.bool false from dep 11 30 Zk Zk) (show(if false=true then _ else j.eval (.tmp 46))=Value.bool false from dep 27 46 Zk Zk) ⟨_,rfl,Zr,rfl⟩⟩
    ·exact fun j W hz u r t dep=>⟨J1 rfl,Jp rfl (show j.eval (.tmp 47)=Value.bool false from dep 28 47 Zk Zk) ⟨_,rfl,Zr,rfl⟩⟩
    ·exact fun j W hz u r t dep=>⟨Jg rfl (d:=48) Zk (by rw[hz];decide) (dep 29 48 Zk Zk),Jp rfl (show j.eval (.tmp 0)=Value.slice (Zs g o) n c from r 0 Zk) ⟨_,rfl,Zr,rfl⟩⟩
    ·exact fun j W hz u r t dep=>⟨Jg rfl (d:=48) Zk (by rw[hz];decide) (dep 29 48 Zk Zk),Jp rfl (show j.eval (.tmp 7)=Zi (k:Int)from r 7 Zk) ⟨_,rfl,Zr,rfl⟩⟩
    ·exact fun j W hz u r t dep=>⟨Jg rfl (d:=48) Zk (by rw[hz];decide) (dep 29 48 Zk Zk),zc6 rfl (show j.eval (.tmp 49)=Value.slice (Zs g o) n c from dep 30 49 Zk Zk) (show j.eval (.tmp 50)=Zi (k:Int)from dep 31 50 Zk Zk) M ⟨_,rfl,Zr,rfl⟩⟩
    ·exact fun j W hz u r t dep=>⟨Jg rfl (d:=48) Zk (by rw[hz];decide) (dep 29 48 Zk Zk),zgu rfl (show j.eval (.tmp 51)=Value.pointer (Zs g (o+k*7))from dep 32 51 Zk Zk) ⟨_,rfl,Zr,rfl⟩⟩
    ·exact fun j W hz u r t dep=>⟨Jg rfl (d:=48) Zk (by rw[hz];decide) (dep 29 48 Zk Zk),zc8 rfl (show j.eval (.tmp 52)=Value.pointer (Zs g (o+k*7+2))from dep 33 52 Zk Zk) (U W t).1.2.2 ⟨_,rfl,Zr,rfl⟩⟩
    ·exact fun j W hz u r t dep=>⟨Jg rfl (d:=48) Zk (by rw[hz];decide) (dep 29 48 Zk Zk),Jp rfl (show j.eval (.tmp 1)=Value.slice (Zs G I) n J from r 1 Zk) ⟨_,rfl,Zr,rfl⟩⟩
    ·exact fun j W hz u r t dep=>⟨Jg rfl (d:=48) Zk (by rw[hz];decide) (dep 29 48 Zk Zk),Jp rfl (show j.eval (.tmp 7)=Zi (k:Int)from r 7 Zk) ⟨_,rfl,Zr,rfl⟩⟩
    ·exact fun j W hz u r t dep=>⟨Jg rfl (d:=48) Zk (by rw[hz];decide) (dep 29 48 Zk Zk),zc6 rfl (show j.eval (.tmp 54)=Value.slice (Zs G I) n J from dep 35 54 Zk Zk) (show j.eval (.tmp 55)=Zi (k:Int)from dep 36 55 Zk Zk) M ⟨_,rfl,Zr,rfl⟩⟩
    ·exact fun j W hz u r t dep=>⟨Jg rfl (d:=48) Zk (by rw[hz];decide) (dep 29 48 Zk Zk),zgu rfl (show j.eval (.tmp 56)=Value.pointer (Zs G (I+k*7))from dep 37 56 Zk Zk) ⟨_,rfl,Zr,rfl⟩⟩
    ·exact fun j W hz u r t dep=>⟨Jg rfl (d:=48) Zk (by rw[hz];decide) (dep 29 48 Zk Zk),zc8 rfl (show j.eval (.tmp 57)=Value.pointer (Zs G (I+k*7+2))from dep 38 57 Zk Zk) (U W t).2.2.2 ⟨_,rfl,Zr,rfl⟩⟩
    ·exact fun j W hz u r t dep=>⟨Jg rfl (d:=48) Zk (by rw[hz];decide) (dep 29 48 Zk Zk),zdt rfl (show j.eval (.tmp 53)=Value.agg #[Zi K,.string S,.slice pn nn cn,.slice pe ne ce,.slice pp np cp]from dep 34 53 Zk Zk) (show j.eval (.tmp 58)=Value.agg #[Zi V,.string Y,.slice Z ac ad,.slice aa ae af,.slice ab ag ah]from dep 39 58 Zk Zk) kty_enter ((rK W t).mono fun e w' ⟨he,hb⟩=>⟨_,he,_,rfl,hb,rfl⟩)⟩
    ·exact fun j W hz u r t dep=>⟨Jg rfl (d:=48) Zk (by rw[hz];decide) (dep 29 48 Zk Zk),op_not rfl (show j.eval (.tmp 59)=Value.bool true from dep 40 59 Zk Zk) ⟨_,rfl,Zr,rfl⟩⟩
    ·exact fun j W hz u r t dep=>⟨J1 rfl,op_pick rfl (show j.eval (.tmp 48)=Value.bool false from dep 29 48 Zk Zk) (show(if false=true then _ else j.eval (.tmp 60))=Value.bool false from dep 41 60 Zk Zk) ⟨_,rfl,Zr,rfl⟩⟩
   case fin=>
    intro j W hz u r t dep;have al:j.tmps.getD 61 undef=.bool false:=dep 42 61 Zk;rw[JZ hz rfl u r];clear dep r rK U;simp only[List.foldl,Option.getD];rw[al];generalize j.tmps.getD 19 undef=v19;generalize j.tmps.getD 20 undef=v20;generalize j.tmps.getD 21 undef=v21;generalize j.tmps.getD 22 undef=v22;generalize j.tmps.getD 23 undef=v23;generalize j.tmps.getD 24 undef=v24;generalize j.tmps.getD 25 undef=v25;generalize j.tmps.getD 26 undef=v26;generalize j.tmps.getD 27 undef=v27;generalize j.tmps.getD 28 undef=v28;generalize j.tmps.getD 29 undef=v29;generalize j.tmps.getD 30 undef=v30;generalize j.tmps.getD 31 undef=v31;generalize j.tmps.getD 32 undef=v32;generalize j.tmps.getD 33 undef=v33;generalize j.tmps.getD 34 undef=v34;generalize j.tmps.getD 35 undef=v35;generalize j.tmps.getD 36 undef=v36;generalize j.tmps.getD 37 undef=v37;generalize j.tmps.getD 38 undef=v38;generalize j.tmps.getD 39 undef=v39;generalize j.tmps.getD 40 undef=v40;generalize j.tmps.getD 41 undef=v41;generalize j.tmps.getD 42 undef=v42;generalize j.tmps.getD 43 undef=v43;generalize j.tmps.getD 44 undef=v44;generalize j.tmps.getD 45 undef=v45;generalize j.tmps.getD 46 undef=v46;generalize j.tmps.getD 47 undef=v47;generalize j.tmps.getD 48 undef=v48;generalize j.tmps.getD 49 undef=v49;generalize j.tmps.getD 50 undef=v50;generalize j.tmps.getD 51 undef=v51;generalize j.tmps.getD 52 undef=v52;generalize j.tmps.getD 53 undef=v53;generalize j.tmps.getD 54 undef=v54;generalize j.tmps.getD 55 undef=v55;generalize j.tmps.getD 56 undef=v56;generalize j.tmps.getD 57 undef=v57;generalize j.tmps.getD 58 undef=v58;generalize j.tmps.getD 59 undef=v59;generalize j.tmps.getD 60 undef=v60;clear hz u al j;simp only[Act.put,Xf,Xu,List.set_cons_succ];go_wp2_with fail;go_roundg (n-(k+1))
    case measure=>omega
    case rel=>exact⟨k+1,by go_num,by omega,J3 t⟩
  ·have M:¬(k:Int)<(n:Int):=by omega
   go_wp2_with fail;go_ret;exact⟨rfl,HB⟩
theorem kcodes_any (E D d m:Nat) (p q:Zo) (n c j:Nat) (cs:List (Co E D d m)) (w:Zw) (s:CoRow w E D d m (.slice p n c) cs) (hu:CoRow w E D d m (.slice q n j) cs) (u:n<=1000000) (G:∀x∈cs,CoWf E D d m x) :
  ZC 40 #[.slice p n c,.slice q n j,.bool true] w (.bool true):=by
 have V:=s.len;obtain⟨_,_,e,hp⟩:=s;injection e with r Y Z
 subst r;obtain⟨_,_,e,I⟩:=hu;injection e with r e4 e5
 subst r;refine kcodes_run _ _ n c j w u fun k hk=>?_
 have t:cs[k]?=some (cs[k]'(by omega)):=Y6 _;obtain⟨g,o,x,rfl,a0,J⟩:=hp k _ t;obtain⟨L,M,y,rfl,b0,U⟩:=I k _ t;exact⟨g,o,L,M,x,y,rfl,rfl,a0,b0,fun W h=>kcode_any E D d m x y _ W (J.below h) (U.below h) (G _ (by simp))⟩
def PrWf (E D d m:Nat) (p:Pr E D d m):Prop:=p.1.length<=1000000/\(∀x∈p.1,WfD E x.2.2)/\p.2.1.length<=1000000/\(∀x∈p.2.1,CoWf E D d m x)/\p.2.2.1.length<=1000000/\(∀x∈p.2.2.1,CoWf E D d m x)/\CoWf E D d m p.2.2.2
theorem kprogram_any (E D d m:Nat) (x y:P13) (p:Pr E D d m) (w:Zw) (hv:PrIs w E D d m x p) (hu:PrIs w E D d m y p) (hf:PrWf E D d m p) :
  ZC 11 #[x.val,y.val,.bool true] w (.bool true):=by
 obtain⟨G,nd,I,J,nm,L,M,nf,U,X⟩:=x;obtain⟨V,r,Z,aa,s,ab,ac,t,ad,Y⟩:=y;obtain⟨v1,v2,v3,v4⟩:=hv;obtain⟨c,g,j,u⟩:=hu;obtain⟨f1,f2,f3,f4,f5,f6,f7⟩:=hf;dsimp only at v1 v2 v3 v4 c g j u;have l1:=v1.len;have l2:=v2.len;have l3:=v3.len;obtain rfl:r=nd:=c.len.trans l1.symm;obtain rfl:s=nm:=g.len.trans l2.symm;obtain rfl:t=nf:=j.len.trans l3.symm;have hD:=fun W (h:ZB w W)=>kdefs_any E G V r I Z p.1 W (v1.below h) (c.below h) (by omega) f2
 have hM:=fun W (h:ZB w W)=>kcodes_any E D d m J aa s L ab p.2.1 W (v2.below h) (g.below h) (by omega) f4
 have hF:=fun W (h:ZB w W)=>kcodes_any E D d m M ac t U ad p.2.2.1 W (v3.below h) (j.below h) (by omega) f6
 have hN:=fun W (h:ZB w W)=>kcode_any E D d m X Y p.2.2.2 W (v4.below h) (u.below h) f7
 clear v1 v2 v3 v4 c g j u f1 f2 f3 f4 f5 f6 f7 l1 l2 l3;obtain⟨A1,O1,N1,ae,af,ag,⟨K1,S1,ah,ai,aj,ak,al,am,an,ao,ap⟩,aq,nb1,ar⟩:=X;obtain⟨A2,O2,N2,au,av,aw,⟨K2,S2,ax,ay,az,aA,aB,aC,aD,aE,aF⟩,aG,aH,aI⟩:=Y;exact kprog_run A1 A2 K1 K2 O1 N1 S1 O2 N2 S2 G J M ae ah ai aj aq V aa ac au ax ay az aG r s t I L U Z ab ad af ag ak al am an ao ap nb1 ar av aw aA aB aC aD aE aF aH aI w hD hM hF hN
end Go.Proofs.YtdcbglnhhbmpgaaGreatDoor
