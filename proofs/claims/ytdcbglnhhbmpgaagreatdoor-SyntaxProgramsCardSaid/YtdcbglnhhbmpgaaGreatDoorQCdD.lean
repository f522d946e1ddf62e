import Derived.Test.YtdcbglnhhbmpgaaGreatDoorQCdC
import Derived.Test.YtdcbglnhhbmpgaaGreatDoorQRStG
import Derived.Test.YtdcbglnhhbmpgaaGreatDoorQListG
set_option maxHeartbeats 4000000
set_option maxRecDepth 100000
namespace Go.Proofs.YtdcbglnhhbmpgaaGreatDoor
open Go Go.RowKit Lx
def CoSz (E D d m:Nat) (c:Co E D d m):Prop:=
 (zcw c).length<=60000/\(JV c).length<=60000/\(cPs c).length<=60000/\(∀x∈cPs c,x.1.length<=60000/\szD E x.2<=60000)/\szD E (zgv c)<=60000/\zeh D d m (zaf c)<=60000/\zen D d m (zaf c)
theorem zd7 (E D d m:Nat) (x:C10) (c:Co E D d m) (w:Zw) (hv:CoIs w E D d m x c) (hf:CoSz E D d m c) :
  ZC 12 #[x.val] w (.bool (JD E D d m c)):=by
 obtain⟨A,O,N,pq,nq,cq,⟨K,S,pn,pe,pp,nn,cn,ne,ce,np,cp⟩,pb,nb,cb⟩:=x;obtain⟨hA,hO,hN,hq,hT,j⟩:=hv;clear hA;obtain⟨f1,f2,f3,f4,f5,f6,f7⟩:=hf;have aj:=hq.len;dsimp only at hO hN hq hT j aj;have aB:nb=(zaf c).length:=by
  obtain⟨p',c',e⟩:=j.slice;injection e
 obtain⟨p',c',e,hp⟩:=hq;injection e with e1 e2 e3
 subst e1;have HP:=J3 hp;have KT:=J3 hT;have KB:=J3 j;have KO:=J3 hO;have KN:=J3 hN;have ac:=J3 aj;have aC:=J3 aB;have ak:=J3 f4;clear hp hT j hO hN aj aB e2 e3 f4;go_enter Tryz.func12,Tryz.ntmps12;go_upto_region 1 with fail
 obtain⟨W0,ag⟩:∃W:Zw,W=w.alloc (Obj.cells #[Zi A,.string O,.string N,.slice pq nq cq,Zi K,.string S,.slice pn nn cn,.slice pe ne ce,.slice pp np cp,.slice pb nb cb] 34):=⟨_,rfl⟩
 obtain⟨g0,al⟩:∃g:Nat,g=w.heap.size:=⟨_,rfl⟩
 rw[<-ag,<-al];have C0:ZH (ZL10 W0 g0 (Zi A) (.string O) (.string N) (.slice pq nq cq) (Zi K) (.string S) (.slice pn nn cn) (.slice pe ne ce) (.slice pp np cp) (.slice pb nb cb)):=by
  rw[ag,al];exact zbr (x:=⟨A,O,N,pq,nq,cq,⟨K,S,pn,pe,pp,nn,cn,ne,ce,np,cp⟩,pb,nb,cb⟩) Zr
 have H0:ZH (ZB w W0):=by rw[ag];exact Za _ _
 clear ag al;have tb:∀W,ZB W0 W->ZB w W:=fun W h=>Zn H0 h
 obtain⟨z1,am⟩:∃z,z=za3 2 (zcw c):=⟨_,rfl⟩
 obtain⟨z2,an⟩:∃z,z=za3 1 (JV c):=⟨_,rfl⟩
 obtain⟨z3,ao⟩:∃z,z=zgb E (cPs c):=⟨_,rfl⟩
 obtain⟨z4,ap⟩:∃z,z=JP E 64 (zgv c):=⟨_,rfl⟩
 obtain⟨z5,aq⟩:∃z,z=za2 D d m 64 (zaf c):=⟨_,rfl⟩
 obtain⟨eo,ar⟩:∃z,z=(zcw c).isEmpty:=⟨_,rfl⟩
 obtain⟨en,au⟩:∃z,z=(JV c).isEmpty:=⟨_,rfl⟩
 obtain⟨eq,heq⟩:∃z,z=decide (nq=0):=⟨_,rfl⟩
 obtain⟨F1,av⟩:=Ze ((!(!eo&&!z1)&&!(!en&&!z2)&&((!eo&&!en)||(eo&&!en)||(eo&&en&&eq))&&z4&&z5))
 have ae:ZH (∀W,ZB W0 W->ZC 32 #[.string O] W (.bool z1)):=fun W h=>by rw[am,J0 KO];exact zi6 _ W f1
 have af:ZH (∀W,ZB W0 W->ZC 42 #[.string N] W (.bool z2)):=fun W h=>by rw[an,J0 KN];exact zj3 _ W f2
 have Z:ZH (∀W,ZB W0 W->ZC 33 #[(.agg #[Zi K,.string S,.slice pn nn cn,.slice pe ne ce,.slice pp np cp]),Zi 64] W (.bool z4)):=fun W h=>by rw[ap];exact zdx E _ _ 64 W (TyValD.below (tb W h) KT) f5 (by omega)
 have RS:ZH (∀W,ZB W0 W->ZC 43 #[.slice pb nb cb,Zi 64] W (.bool z5)):=fun W h=>by rw[aq];have j:=J0 KB;have e:=J0 aC;rw[e]at j ⊢;exact zks D d m _ _ _ 64 W (StRow.below (tb W h) m j) f6 f7 (by omega) (by omega)
 have CC:ZH (∀W,ZB W0 W->ZL10 W g0 (Zi A) (.string O) (.string N) (.slice pq nq cq) (Zi K) (.string S) (.slice pn nn cn) (.slice pe ne ce) (.slice pp np cp) (.slice pb nb cb)):=fun W h=>zbp C0 h
 have HR:ZH (JD E D d m c=(F1&&z3)):=by
  show _=_;have e1:JD E D d m c=(!(!eo&&!z1)&&!(!en&&!z2)&&((!eo&&!en)||(eo&&!en)||(eo&&en&&eq))&&z3&&z4&&z5):=by
   rw[am,an,ao,ap,aq,ar,au,heq,J0 ac];rfl
  rw[e1,av];generalize (!(!eo&&!z1)&&!(!en&&!z2)&&((!eo&&!en)||(eo&&!en)||(eo&&en&&eq)))=h
  cases h <;> cases z3 <;> cases z4 <;> cases z5 <;> rfl
 have aD:=J3 av;have r:ZH (ZB W0 W0):=Zr;have s1:=JK KO;have s2:=JK KN;rw[<-ar]at s1;rw[<-au]at s2;have aa:=J3 heq;have aw:=J3 ao;clear KT KB f1 f2 f5 f6 f7 am an ao ap aq ar au heq KO KN aC av;obtain⟨t,G,I,c3,c4,c5,J,L,M,U⟩:=J0 C0
 go_cut [52] (fun cv wx=>∃Y:Zw,cv=.bool (!F1)/\Y=wx/\ZH (ZB W0 Y))
 case first=>
  clear HP ak HR aw ac tb;rcases s1 with⟨rfl,rfl⟩|⟨q1,rfl⟩
  case' inl=>
   rcases s2 with⟨rfl,rfl⟩|⟨q2,rfl⟩
   case' inl=>
    clear ae af;by_cases ax:nq=0
    case' pos=>
     subst ax;obtain rfl:eq=true:=by rw[J0 aa];rfl
     cases z4
    case' neg=>
     obtain rfl:eq=false:=by rw[J0 aa];exact Ym ax
     have aT:(0:Int)<(nq:Int):=by omega
     clear ax aa
   case' inr=>
    clear ae aa
    cases z2
    case' true=>cases z4
  case' inr=>
   cases z1
   case' false=>clear aa
   case' true=>
    rcases s2 with⟨rfl,rfl⟩|⟨q2,rfl⟩
    case' inl=>clear af aa
    case' inr=>
     clear aa
     cases z2
     case' true=>cases z4
  all_goals
   as_aux_lemma=>
    go_wp2_with (first|(go_at_call 32;refine(ae _ r).mono ?_;clear ae;rintro x wq ⟨rfl,j⟩;replace r:=J3 (Zn r j);clear j;clear t G I c3 c4 c5 J L M U;obtain⟨t,G,I,c3,c4,c5,J,L,M,U⟩:=CC _ r)|(go_at_call 42;refine(af _ r).mono ?_;clear af;rintro x wq ⟨rfl,j⟩;replace r:=J3 (Zn r j);clear j;clear t G I c3 c4 c5 J L M U;obtain⟨t,G,I,c3,c4,c5,J,L,M,U⟩:=CC _ r)|(go_at_call 33;refine(Z _ r).mono ?_;clear Z;rintro x wq ⟨rfl,j⟩;replace r:=J3 (Zn r j);clear j;clear t G I c3 c4 c5 J L M U;obtain⟨t,G,I,c3,c4,c5,J,L,M,U⟩:=CC _ r)|(go_at_call 43;refine(RS _ r).mono ?_;clear RS;rintro x wq ⟨rfl,j⟩;replace r:=J3 (Zn r j);clear j;clear t G I c3 c4 c5 J L M U;obtain⟨t,G,I,c3,c4,c5,J,L,M,U⟩:=CC _ r));go_meet
    case rel=>exact⟨_,by rw[J0 aD];rfl,rfl,r⟩
 case rest=>
 obtain⟨Y,rfl,rfl,HY⟩:=hcut;have r:=HY;clear t G I c3 c4 c5 J L M U ae af Z RS aa s1 s2 aD;obtain⟨t,G,I,c3,c4,c5,J,L,M,U⟩:=CC _ HY
 cases F1
 ·go_wp2_with fail;go_ret;exact⟨by rw[J0 HR];rfl,tb _ HY⟩
 obtain⟨V,ah⟩:=Ze ((cPs c).map (·.1))
 have ay:ZH (V.length=nq):=by show _=_;rw[ah,J0 ac];simp
 have aE:=J3 ah;have HZ:ZH (z3=(paTs E (cPs c)&&zaj V)):=by show _=_;rw[J0 aw,ah];rfl
 have aU:nq<=60000:=by have:=J0 ac;omega
 have aP:ZH (Y.ownsRow Y.heap.size 9 1 (Zz) (V.take 0).length (za8 (V.take 0))):=YU _ _ _ _;have ab:=J3 tb;clear ah aw tb t G I c4 c5 J L M U;go_wp2_with fail
 go_loopg [3,4] nq (fun gk vo i wr=>∃(k:Nat) (v:Value),i=Zi k/\v=vo/\k+gk=nq/\ZH (wr.ownsRow Y.heap.size 9 1 v (V.take k).length (za8 (V.take k)))/\ZH (ZB Y wr)/\ZH (paTs E (cPs c)=paTs E ((cPs c).drop k)))
 case atStart=>exact⟨0,_,rfl,rfl,by omega,aP,Zr,rfl⟩
 case round=>
  obtain⟨k,v,rfl,rfl,hk,HO,HW,HM⟩:=hrel;have az:=J3 (Zn HY HW);clear c3;obtain⟨t,G,I,c3,c4,c5,J,L,M,U⟩:=CC _ az;clear t G I c4 c5 J L M U;by_cases aV:k<nq
  ·have aW:(k:Int)<(nq:Int):=by omega
   have aF:k<(cPs c).length:=by have:=J0 ac;omega
   obtain⟨g,o,⟨K1,S1,aG,aH,aI,aJ,aK,aL,aM,aN,aO⟩,rfl,a0,a1,a2⟩:=HP k (cPs c)[k] (by simp[aF]);obtain⟨q1,q2⟩:=ak (cPs c)[k] (by simp);obtain⟨s,hs⟩:=Ze ((cPs c)[k].1)
   rw[<-hs]at a0 q1;have FF:ZH (∀W,ZB w W->ZK6 W g (o+k*6) (.string ⟨s.toArray⟩) (Zi K1) (.string S1) (.slice aG aJ aK) (.slice aH aL aM) (.slice aI aN aO)):=fun W h=>by
    obtain⟨b0,b1,b2,b3,b4⟩:=a1.below h;exact⟨(h.cell (p:=⟨g,_,none⟩) (J2 a0)).trans a0,b0,b1,b2,b3,b4⟩
   obtain⟨z2,aA⟩:∃z,z=JP E 64 (cPs c)[k].2:=⟨_,rfl⟩
   have Z:ZH (∀W,ZB w W->ZC 33 #[.agg #[Zi K1,.string S1,.slice aG aJ aK,.slice aH aL aM,.slice aI aN aO],Zi 64] W (.bool z2)):=fun W h=>by
    rw[aA];exact zdx E _ _ 64 W (TyValD.below h a2) q2 (by omega)
   have HD:=J3 (paTs_drop aF);rw[<-aA]at HD;have aQ:ZH (V.take (k+1)=V.take k++[s]):=by
    show _=_;have h1:k<V.length:=by have:=J0 ay;omega
    rw[List.take_add_one,Y6 h1,hs];simp[J0 aE]
   obtain⟨ga,cap,W4,e4,hL⟩:=Left.append (s:=s) HO HW.size (by rw[YE];omega);rw[<-J0 aQ]at hL;obtain⟨u,hu⟩:=Ze (.slice (Zs ga 0) ((V.take k).length+1) cap:Value)
   rw[<-hu]at e4 hL;have HE:=J3 e4;have HL:=J3 hL;have H4:ZH (ZB Y W4):=HW.trans hL.2.1;have ad:ZH (ZB W0 W4):=Zn HY H4;obtain⟨m0,m1,m2,m3,m4,m5⟩:=FF wr (ab _ az);obtain⟨d0,d1,d2,d3,d4,d5⟩:=FF W4 (ab _ ad);have d9:W4.cell? ⟨g0,3,none⟩=some (.slice (Zs g o) nq cq):=(CC _ ad).2.2.2.1;clear a0 a1 a2 q1 q2 hs aA e4 hL hu HP
   cases z2
   ·go_wp2_with (first
     | (at_builtin;refine J4 rfl (.tmp 60) (.tmp 67) 27 rfl rfl rfl HE ?_;clear HE)
     | (go_at_call 33;refine(Z _ (ab _ ad)).mono ?_;clear Z;rintro x w5 ⟨rfl,ai⟩))
    go_ret;exact⟨by rw[J0 HR,J0 HZ,J0 HM,J0 HD];rfl,(ab _ ad).trans (ai.mono (ab _ ad).size)⟩
   ·go_wp2_with (first
     | (at_builtin;refine J4 rfl (.tmp 60) (.tmp 67) 27 rfl rfl rfl HE ?_;clear HE)
     | (go_at_call 33;refine(Z _ (ab _ ad)).mono ?_;clear Z;rintro x w5 ⟨rfl,ai⟩))
    go_roundg (nq-(k+1))
    case measure=>omega
    case rel=>exact⟨k+1,u,by go_num,rfl,by omega,J3 (zbq HL.1 ai),J3 (Zn H4 ai),J3 (by rw[J0 HM,J0 HD];rfl)⟩
  ·obtain rfl:k=nq:=by omega
   have RA:ZH (ZC 44 #[v] wr (.bool (zaj V))):=by
    refine zmw _ V wr (Qb (base:=Y.heap.size) ?_) (by have:=J0 ay;omega) fun s hs=>?_
    ·have h:=J0 HO;rw[YS (by have:=J0 ay;omega)]at h;exact h
    ·rw[J0 aE]at hs;obtain⟨x,hx,rfl⟩:=YF.1 hs;exact(ak x hx).1
   have aR:ZH (paTs E (cPs c)=true):=by show _=_;rw[J0 HM,Yg (by have:=J0 ac;omega)];rfl
   have j:=ab _ az;clear HO HP;go_wp2_with (go_at_call 44;refine RA.mono ?_;clear RA;rintro x w2 ⟨rfl,aS⟩);go_ret;exact⟨by rw[J0 HR,J0 HZ,J0 aR];rfl,Zn j aS⟩
def PrSz (E D d m:Nat) (p:Pr E D d m):Prop:=
 p.1.length<=60000/\(∀x∈p.1,x.2.1.length<=60000/\szD E x.2.2<=60000)/\p.2.1.length<=60000/\(∀c∈p.2.1,CoSz E D d m c)/\p.2.2.1.length<=60000/\(∀c∈p.2.2.1,CoSz E D d m c)/\CoSz E D d m p.2.2.2
theorem rc_method {E D d m:Nat} {c:Co E D d m} (h:JD E D d m c=true) (j:(zcw c).isEmpty=false):zav (zcw c) (JV c)=true:=by
 rw[JD,Yc,Yc,Yc,Yc]at h;have g:=h.1.1.1.2;rw[zdc,zix,j]at g;simpa using g
theorem rc_main {E D d m:Nat} {c:Co E D d m} (j:(zcw c).isEmpty=true) (r:(JV c).isEmpty=true):(zix (zcw c) (JV c) (cPs c).length&&JD E D d m c)=JD E D d m c:=by
 cases h:JD E D d m c
 ·simp
 ·rw[JD,Yc,Yc,Yc,Yc]at h;have g:=h.1.1.1.2;rw[zdc,zav,j,r]at g;simpa using g
theorem zjt (E D d m:Nat) (x:P13) (p:Pr E D d m) (w:Zw) (hv:PrIs w E D d m x p) (hf:PrSz E D d m p) :
  ZC 7 #[x.val] w (.bool (zb9 E D d m p)):=by
 obtain⟨pd,nd,cd,pm,nm,cm,pf,nf,cf,⟨A,O,N,pq,nq,cq,⟨K,S,pn,pe,pp,nn,cn,ne,ce,np,cp⟩,pb,nb,cb⟩⟩:=x;obtain⟨v1,v2,v3,v4⟩:=hv;obtain⟨f1,f2,f3,f4,f5,f6,f7⟩:=hf;dsimp only at v1 v2 v3 v4;have l1:=v1.len;have l2:=v2.len;have l3:=v3.len;rw[<-l1]at f1;rw[<-l2]at f3;rw[<-l3]at f5;obtain⟨_,_,e,aG⟩:=v1;injection e with u e2 e3
 subst u;obtain⟨_,_,e,aH⟩:=v2;injection e with u e4 e5
 subst u;obtain⟨_,_,e,aI⟩:=v3;injection e with u e6 e7
 subst u;have L1:=J3 l1;have L2:=J3 l2;have L3:=J3 l3;have PD:=J3 aG;have PM:=J3 aH;have PF:=J3 aI;have V4:=J3 v4;have F2:=J3 f2;have F4:=J3 f4;have F6:=J3 f6;have F7:=J3 f7;have HR:ZH (zb9 E D d m p=(zc5 E p.1&&zca E D d m p.2.1&&zc9 E D d m p.2.2.1&&(zix (zcw p.2.2.2) (JV p.2.2.2) (cPs p.2.2.2).length&&JD E D d m p.2.2.2))):=by
  show _=_;rw[<-Bool.and_assoc];rfl
 clear l1 l2 l3 e2 e3 e4 e5 e6 e7 aG aH aI v4 f2 f4 f6 f7;go_enter Tryz.func7,Tryz.ntmps7;go_upto_region 1 with fail
 obtain⟨W0,aB⟩:∃W:Zw,W=w.alloc (Obj.cells #[.slice pd nd cd,.slice pm nm cm,.slice pf nf cf,Zi A,.string O,.string N,.slice pq nq cq,Zi K,.string S,.slice pn nn cn,.slice pe ne ce,.slice pp np cp,.slice pb nb cb] 36):=⟨_,rfl⟩
 obtain⟨g0,aC⟩:∃g:Nat,g=w.heap.size:=⟨_,rfl⟩
 rw[<-aB,<-aC];have C0:ZH (ZL13 W0 g0 (.slice pd nd cd) (.slice pm nm cm) (.slice pf nf cf) (Zi A) (.string O) (.string N) (.slice pq nq cq) (Zi K) (.string S) (.slice pn nn cn) (.slice pe ne ce) (.slice pp np cp) (.slice pb nb cb)):=by
  rw[aB,aC];exact zbj (x:=⟨pd,nd,cd,pm,nm,cm,pf,nf,cf,⟨A,O,N,pq,nq,cq,⟨K,S,pn,pe,pp,nn,cn,ne,ce,np,cp⟩,pb,nb,cb⟩⟩) Zr
 have H0:ZH (ZB w W0):=by rw[aB];exact Za _ _
 clear aB aC;have G:ZH (∀W,ZB W0 W->ZB w W):=fun W h=>Zn H0 h
 have CC:ZH (∀W,ZB W0 W->ZL13 W g0 (.slice pd nd cd) (.slice pm nm cm) (.slice pf nf cf) (Zi A) (.string O) (.string N) (.slice pq nq cq) (Zi K) (.string S) (.slice pn nn cn) (.slice pe ne ce) (.slice pp np cp) (.slice pb nb cb)):=fun W h=>zc1 C0 h
 clear C0 H0;go_wp2_with fail
 go_loopg [3] nd (fun gk i wr=>∃k:Nat,i=Zi k/\k+gk=nd/\ZH (zc5 E p.1=zc5 E (p.1.drop k))/\ZH (ZB W0 wr))
 case atStart=>exact⟨0,rfl,by omega,rfl,Zr⟩
 case round=>
  obtain⟨k,rfl,hk,HM,j⟩:=hrel;obtain⟨I,J,L,M,U,V,Y,Z,q8,q9,aa,ab,ac⟩:=CC _ j;by_cases ax:k<nd
  ·have ay:(k:Int)<(nd:Int):=by omega
   have an:k<p.1.length:=by have:=J0 L1;omega
   obtain⟨g,o,⟨K1,S1,ae,af,ag,ah,ai,aj,ak,al,am⟩,rfl,a0,a1,a2,a3⟩:=PD k p.1[k] (by simp[an]);obtain⟨j1,j2⟩:=F2 p.1[k] (by simp);obtain⟨A1,aJ⟩:∃a,a=p.1[k].1:=⟨_,rfl⟩
   obtain⟨s,hs⟩:=Ze (p.1[k].2.1)
   have HD:=J3 (zjw an);obtain⟨z1,aD⟩:∃z,z=za3 2 s:=⟨_,rfl⟩
   obtain⟨z2,ad⟩:∃z,z=JP E 64 p.1[k].2.2:=⟨_,rfl⟩
   rw[<-aJ]at a0;rw[<-hs]at a1 j1 HD;rw[<-aD,<-ad]at HD;have FF:ZH (∀W,ZB w W->ZK7 W g (o+k*7) (Zi A1) (.string ⟨s.toArray⟩) (Zi K1) (.string S1) (.slice ae ah ai) (.slice af aj ak) (.slice ag al am)):=fun W h=>by
    obtain⟨b0,b1,b2,b3,b4⟩:=a2.below h;exact⟨(h.cell (p:=⟨g,_,none⟩) (J2 a0)).trans a0,(h.cell (p:=⟨g,_,none⟩) (J2 a1)).trans a1,b0,b1,b2,b3,b4⟩
   have IS:ZH (∀W,ZB W0 W->ZC 32 #[.string ⟨s.toArray⟩] W (.bool z1)):=fun W _=>by rw[aD];exact zi6 s W j1
   have RT:ZH (∀W,ZB W0 W->ZC 33 #[(.agg #[Zi K1,.string S1,.slice ae ah ai,.slice af aj ak,.slice ag al am]),Zi 64] W (.bool z2)):=fun W h=>by rw[ad];exact zdx E _ _ 64 W (TyValD.below (G W h) a3) j2 (by omega)
   clear aD ad;obtain⟨y0,y1,y2,y3,y4,y5,y6⟩:=FF _ (G _ j);clear a0 a1 a2 a3 j1 j2 aJ hs PM PF V4 F4 F6 F7 F2
   cases z1
   ·go_wp2_with (first|(go_at_call 32;refine(IS _ j).mono ?_;clear IS;rintro x wq ⟨rfl,r⟩;replace j:=J3 (Zn j r);clear r;clear I J L M U V Y Z q8 q9 aa ab ac;obtain⟨I,J,L,M,U,V,Y,Z,q8,q9,aa,ab,ac⟩:=CC _ j;clear y0 y1 y2 y3 y4 y5 y6;obtain⟨y0,y1,y2,y3,y4,y5,y6⟩:=FF _ (G _ j))|(go_at_call 33;refine(RT _ j).mono ?_;clear RT;rintro x wq ⟨rfl,r⟩;replace j:=J3 (Zn j r);clear r;clear I J L M U V Y Z q8 q9 aa ab ac;obtain⟨I,J,L,M,U,V,Y,Z,q8,q9,aa,ab,ac⟩:=CC _ j;clear y0 y1 y2 y3 y4 y5 y6;obtain⟨y0,y1,y2,y3,y4,y5,y6⟩:=FF _ (G _ j)));go_ret;exact⟨by rw[J0 HR,J0 HM,J0 HD];rfl,G _ j⟩
   ·cases z2
    ·go_wp2_with (first|(go_at_call 32;refine(IS _ j).mono ?_;clear IS;rintro x wq ⟨rfl,r⟩;replace j:=J3 (Zn j r);clear r;clear I J L M U V Y Z q8 q9 aa ab ac;obtain⟨I,J,L,M,U,V,Y,Z,q8,q9,aa,ab,ac⟩:=CC _ j;clear y0 y1 y2 y3 y4 y5 y6;obtain⟨y0,y1,y2,y3,y4,y5,y6⟩:=FF _ (G _ j))|(go_at_call 33;refine(RT _ j).mono ?_;clear RT;rintro x wq ⟨rfl,r⟩;replace j:=J3 (Zn j r);clear r;clear I J L M U V Y Z q8 q9 aa ab ac;obtain⟨I,J,L,M,U,V,Y,Z,q8,q9,aa,ab,ac⟩:=CC _ j;clear y0 y1 y2 y3 y4 y5 y6;obtain⟨y0,y1,y2,y3,y4,y5,y6⟩:=FF _ (G _ j)));go_ret;exact⟨by rw[J0 HR,J0 HM,J0 HD];rfl,G _ j⟩
    ·go_wp2_with (first|(go_at_call 32;refine(IS _ j).mono ?_;clear IS;rintro x wq ⟨rfl,r⟩;replace j:=J3 (Zn j r);clear r;clear I J L M U V Y Z q8 q9 aa ab ac;obtain⟨I,J,L,M,U,V,Y,Z,q8,q9,aa,ab,ac⟩:=CC _ j;clear y0 y1 y2 y3 y4 y5 y6;obtain⟨y0,y1,y2,y3,y4,y5,y6⟩:=FF _ (G _ j))|(go_at_call 33;refine(RT _ j).mono ?_;clear RT;rintro x wq ⟨rfl,r⟩;replace j:=J3 (Zn j r);clear r;clear I J L M U V Y Z q8 q9 aa ab ac;obtain⟨I,J,L,M,U,V,Y,Z,q8,q9,aa,ab,ac⟩:=CC _ j;clear y0 y1 y2 y3 y4 y5 y6;obtain⟨y0,y1,y2,y3,y4,y5,y6⟩:=FF _ (G _ j)));go_roundg (nd-(k+1))
     case measure=>omega
     case rel=>exact⟨k+1,by go_num,by omega,J3 (by rw[J0 HM,J0 HD];rfl),j⟩
  ·have ay:¬(k:Int)<(nd:Int):=by omega
   have ao:ZH (zc5 E p.1=true):=by show _=_;rw[J0 HM,Yg (by have:=J0 L1;omega)];rfl
   have aN:=j;clear HM hk ax j;clear PD F2 L1;go_wp2_with fail;clear I J L M U V Y Z q8 q9 aa ab ac
   go_loopg [4] nm (fun gk i wr=>∃k:Nat,i=Zi k/\k+gk=nm/\ZH (zca E D d m p.2.1=zca E D d m (p.2.1.drop k))/\ZH (ZB W0 wr))
   case atStart=>exact⟨0,rfl,by omega,rfl,aN⟩
   case round=>
    obtain⟨k,rfl,hk,HM,j⟩:=hrel;obtain⟨I,J,L,M,U,V,Y,Z,q8,q9,aa,ab,ac⟩:=CC _ j;by_cases ax:k<nm
    ·have ay:(k:Int)<(nm:Int):=by omega
     have an:k<p.2.1.length:=by have:=J0 L2;omega
     obtain⟨g,o,⟨A1,O1,N1,ap,aq,ar,⟨K1,S1,ae,af,ag,ah,ai,aj,ak,al,am⟩,au,nb1,av⟩,rfl,⟨a0,a1,a2,a3,⟨a4,a5,a6,a7,a8⟩,a9⟩,hc⟩:=PM k p.2.1[k] (by simp[an]);have j1:=F4 p.2.1[k] (by simp);have HD:=J3 (zhw an);obtain⟨cc,az⟩:∃c,c=p.2.1[k]:=⟨_,rfl⟩
     rw[<-az]at HD hc j1;obtain⟨z2,ad⟩:∃z,z=JD E D d m cc:=⟨_,rfl⟩
     have aK:=J3 ad;rw[<-ad]at HD;have FF:ZH (∀W,ZB w W->ZK10 W g (o+k*10) (Zi A1) (.string O1) (.string N1) (.slice ap aq ar) (Zi K1) (.string S1) (.slice ae ah ai) (.slice af aj ak) (.slice ag al am) (.slice au nb1 av)):=fun W h=>by
      have t:=fun {q:Nat} {v:Value} (e:w.cell? ⟨g,q,none⟩=some v)=>(h.cell (p:=⟨g,q,none⟩) (J2 e)).trans e
      exact⟨t a0,t a1,t a2,t a3,t a4,t a5,t a6,t a7,t a8,t a9⟩
     have RC:ZH (∀W,ZB W0 W->ZC 12 #[(.agg #[Zi A1,.string O1,.string N1,.slice ap aq ar,Zi K1,.string S1,.slice ae ah ai,.slice af aj ak,.slice ag al am,.slice au nb1 av])] W (.bool z2)):=fun W h=>by rw[ad];exact zd7 E D d m ⟨A1,O1,N1,ap,aq,ar,⟨K1,S1,ae,af,ag,ah,ai,aj,ak,al,am⟩,au,nb1,av⟩ cc W (hc.below (G W h)) j1
     obtain⟨y0,y1,y2,y3,y4,y5,y6,y7,y8,y9⟩:=FF _ (G _ j);have s1:=JK hc.2.1;have s2:=JK hc.2.2.1;dsimp only at s1 s2;clear a0 a1 a2 a3 a4 a5 a6 a7 a8 a9 hc j1 az ad V4 F7;rcases s1 with⟨rfl,u⟩|⟨aL,u⟩
     ·have HE:ZH (zav (zcw cc) (JV cc)=false):=by show _=_;rw[zav,u];rfl
      clear u s2 RC;go_wp2_with fail;go_ret;exact⟨by rw[J0 HR,J0 ao,J0 HM,J0 HD,J0 HE];rfl,G _ j⟩
     ·cases z2
      ·clear u s2;go_wp2_with (go_at_call 12;refine(RC _ j).mono ?_;clear RC;rintro x wq ⟨rfl,r⟩;replace j:=J3 (Zn j r);clear r;clear I J L M U V Y Z q8 q9 aa ab ac;obtain⟨I,J,L,M,U,V,Y,Z,q8,q9,aa,ab,ac⟩:=CC _ j;clear y0 y1 y2 y3 y4 y5 y6 y7 y8 y9;obtain⟨y0,y1,y2,y3,y4,y5,y6,y7,y8,y9⟩:=FF _ (G _ j));go_ret;exact⟨by rw[J0 HR,J0 ao,J0 HM,J0 HD,Xw];rfl,G _ j⟩
      ·have HE:=J3 (rc_method aK.symm u);clear u s2;go_wp2_with (go_at_call 12;refine(RC _ j).mono ?_;clear RC;rintro x wq ⟨rfl,r⟩;replace j:=J3 (Zn j r);clear r;clear I J L M U V Y Z q8 q9 aa ab ac;obtain⟨I,J,L,M,U,V,Y,Z,q8,q9,aa,ab,ac⟩:=CC _ j;clear y0 y1 y2 y3 y4 y5 y6 y7 y8 y9;obtain⟨y0,y1,y2,y3,y4,y5,y6,y7,y8,y9⟩:=FF _ (G _ j));go_roundg (nm-(k+1))
       case measure=>omega
       case rel=>exact⟨k+1,by go_num,by omega,J3 (by rw[J0 HM,J0 HD];rw[J0 HE];rfl),j⟩
    ·have ay:¬(k:Int)<(nm:Int):=by omega
     have aw:ZH (zca E D d m p.2.1=true):=by show _=_;rw[J0 HM,Yg (by have:=J0 L2;omega)];rfl
     have aM:=j;clear HM hk ax j;clear PM F4 L2;go_wp2_with fail;clear I J L M U V Y Z q8 q9 aa ab ac
     go_loopg [5] nf (fun gk i wr=>∃k:Nat,i=Zi k/\k+gk=nf/\ZH (zc9 E D d m p.2.2.1=zc9 E D d m (p.2.2.1.drop k))/\ZH (ZB W0 wr))
     case atStart=>exact⟨0,rfl,by omega,rfl,aM⟩
     case round=>
      obtain⟨k,rfl,hk,HM,j⟩:=hrel;obtain⟨I,J,L,M,U,V,Y,Z,q8,q9,aa,ab,ac⟩:=CC _ j;by_cases ax:k<nf
      ·have ay:(k:Int)<(nf:Int):=by omega
       have an:k<p.2.2.1.length:=by have:=J0 L3;omega
       obtain⟨g,o,⟨A1,O1,N1,ap,aq,ar,⟨K1,S1,ae,af,ag,ah,ai,aj,ak,al,am⟩,au,nb1,av⟩,rfl,⟨a0,a1,a2,a3,⟨a4,a5,a6,a7,a8⟩,a9⟩,hc⟩:=PF k p.2.2.1[k] (by simp[an]);have j1:=F6 p.2.2.1[k] (by simp);have HD:=J3 (zj4 an);obtain⟨cc,az⟩:∃c,c=p.2.2.1[k]:=⟨_,rfl⟩
       rw[<-az]at HD hc j1;obtain⟨z2,ad⟩:∃z,z=JD E D d m cc:=⟨_,rfl⟩
       have aK:=J3 ad;rw[<-ad]at HD;have FF:ZH (∀W,ZB w W->ZK10 W g (o+k*10) (Zi A1) (.string O1) (.string N1) (.slice ap aq ar) (Zi K1) (.string S1) (.slice ae ah ai) (.slice af aj ak) (.slice ag al am) (.slice au nb1 av)):=fun W h=>by
        have t:=fun {q:Nat} {v:Value} (e:w.cell? ⟨g,q,none⟩=some v)=>(h.cell (p:=⟨g,q,none⟩) (J2 e)).trans e
        exact⟨t a0,t a1,t a2,t a3,t a4,t a5,t a6,t a7,t a8,t a9⟩
       have RC:ZH (∀W,ZB W0 W->ZC 12 #[(.agg #[Zi A1,.string O1,.string N1,.slice ap aq ar,Zi K1,.string S1,.slice ae ah ai,.slice af aj ak,.slice ag al am,.slice au nb1 av])] W (.bool z2)):=fun W h=>by rw[ad];exact zd7 E D d m ⟨A1,O1,N1,ap,aq,ar,⟨K1,S1,ae,af,ag,ah,ai,aj,ak,al,am⟩,au,nb1,av⟩ cc W (hc.below (G W h)) j1
       obtain⟨y0,y1,y2,y3,y4,y5,y6,y7,y8,y9⟩:=FF _ (G _ j);have s1:=JK hc.2.1;have s2:=JK hc.2.2.1;dsimp only at s1 s2;clear a0 a1 a2 a3 a4 a5 a6 a7 a8 a9 hc j1 az ad V4 F7;rcases s1 with⟨rfl,u⟩|⟨aL,u⟩
       ·rcases s2 with⟨rfl,e2⟩|⟨aO,e2⟩
        ·have HE:ZH (zdc (zcw cc) (JV cc)=false):=by show _=_;rw[zdc,u,e2];rfl
         clear u e2 RC;go_wp2_with fail;go_ret;exact⟨by rw[J0 HR,J0 ao,J0 aw,J0 HM,J0 HD,J0 HE];rfl,G _ j⟩
        ·have HE:ZH (zdc (zcw cc) (JV cc)=true):=by show _=_;rw[zdc,u,e2];rfl
         clear u e2
         cases z2
         ·go_wp2_with (go_at_call 12;refine(RC _ j).mono ?_;clear RC;rintro x wq ⟨rfl,r⟩;replace j:=J3 (Zn j r);clear r;clear I J L M U V Y Z q8 q9 aa ab ac;obtain⟨I,J,L,M,U,V,Y,Z,q8,q9,aa,ab,ac⟩:=CC _ j;clear y0 y1 y2 y3 y4 y5 y6 y7 y8 y9;obtain⟨y0,y1,y2,y3,y4,y5,y6,y7,y8,y9⟩:=FF _ (G _ j));go_ret;exact⟨by rw[J0 HR,J0 ao,J0 aw,J0 HM,J0 HD,Xw];rfl,G _ j⟩
         ·go_wp2_with (go_at_call 12;refine(RC _ j).mono ?_;clear RC;rintro x wq ⟨rfl,r⟩;replace j:=J3 (Zn j r);clear r;clear I J L M U V Y Z q8 q9 aa ab ac;obtain⟨I,J,L,M,U,V,Y,Z,q8,q9,aa,ab,ac⟩:=CC _ j;clear y0 y1 y2 y3 y4 y5 y6 y7 y8 y9;obtain⟨y0,y1,y2,y3,y4,y5,y6,y7,y8,y9⟩:=FF _ (G _ j));go_roundg (nf-(k+1))
          case measure=>omega
          case rel=>exact⟨k+1,by go_num,by omega,J3 (by rw[J0 HM,J0 HD];rw[J0 HE];rfl),j⟩
       ·have HE:ZH (zdc (zcw cc) (JV cc)=false):=by show _=_;rw[zdc,u];rfl
        clear u s2 RC;go_wp2_with fail;go_ret;exact⟨by rw[J0 HR,J0 ao,J0 aw,J0 HM,J0 HD,J0 HE];rfl,G _ j⟩
      ·have ay:¬(k:Int)<(nf:Int):=by omega
       have aE:ZH (zc9 E D d m p.2.2.1=true):=by show _=_;rw[J0 HM,Yg (by have:=J0 L3;omega)];rfl
       have aA:=j;clear HM hk ax j;have v4:=J0 V4;obtain⟨z5,aF⟩:∃z,z=JD E D d m p.2.2.2:=⟨_,rfl⟩
       have aP:=J3 aF;have RC:ZH (ZC 12 #[(.agg #[Zi A,.string O,.string N,.slice pq nq cq,Zi K,.string S,.slice pn nn cn,.slice pe ne ce,.slice pp np cp,.slice pb nb cb])] wr (.bool z5)):=by rw[aF];exact zd7 E D d m ⟨A,O,N,pq,nq,cq,⟨K,S,pn,pe,pp,nn,cn,ne,ce,np,cp⟩,pb,nb,cb⟩ _ wr (v4.below (G _ aA)) F7
       have s1:=JK v4.2.1;have s2:=JK v4.2.2.1;dsimp only at s1 s2;clear v4 V4 F7 PF F6 L3 aM aF;rcases s1 with⟨rfl,u⟩|⟨aL,u⟩
       ·rcases s2 with⟨rfl,e2⟩|⟨aO,e2⟩
        ·have HE:=J3 (rc_main (c:=p.2.2.2) u e2);clear u e2;go_wp2_with (go_at_call 12;refine RC.mono ?_;clear RC;rintro x wq ⟨rfl,r⟩);go_ret;exact⟨by rw[J0 HR,J0 ao,J0 aw,J0 aE,J0 HE,<-J0 aP];rfl,(G _ aA).trans (r.mono (G _ aA).size)⟩
        ·have HE:ZH (zix (zcw p.2.2.2) (JV p.2.2.2) (cPs p.2.2.2).length=false):=by show _=_;rw[zix,u,e2];rfl
         clear u e2 RC;go_wp2_with fail;go_ret;exact⟨by rw[J0 HR,J0 ao,J0 aw,J0 aE,J0 HE];rfl,G _ aA⟩
       ·have HE:ZH (zix (zcw p.2.2.2) (JV p.2.2.2) (cPs p.2.2.2).length=false):=by show _=_;rw[zix,u];rfl
        clear u s2 RC;go_wp2_with fail;go_ret;exact⟨by rw[J0 HR,J0 ao,J0 aw,J0 aE,J0 HE];rfl,G _ aA⟩
end Go.Proofs.YtdcbglnhhbmpgaaGreatDoor
