import Derived.Test.YtdcbglnhhbmpgaaGreatDoorQCdE
import Derived.Deep.RegionHeld3
set_option maxHeartbeats 600000
set_option maxRecDepth 100000
namespace Go.Proofs.YtdcbglnhhbmpgaaGreatDoor
open Go Go.RowKit Lx
def szPs (E:Nat) (c:List (Pa E)):Nat:=(c.map fun x=>1+x.1.length+szD E x.2).sum
def zei (E D d m:Nat) (c:Co E D d m):Nat:=1+(zcw c).length+(JV c).length+szD E (zgv c)+szPs E (cPs c)+zeh D d m (zaf c)
def szDs (E:Nat) (c:List (De E)):Nat:=(c.map fun x=>1+x.2.1.length+szD E x.2.2).sum
def zhr (E D d m:Nat) (cs:List (Co E D d m)):Nat:=(cs.map (zei E D d m)).sum
def szPr (E D d m:Nat) (p:Pr E D d m):Nat:=zei E D d m p.2.2.2+szDs E p.1+zhr E D d m p.2.1+zhr E D d m p.2.2.1
def CoO (E D d m:Nat) (c:Co E D d m):Prop:=((zcw c).length<=140737488351232/\(JV c).length<=140737488351232/\(cPs c).length<=140737488351232)/\(∀x∈cPs c,x.1.length<=140737488351232/\WfD E x.2)/\WfD E (zgv c)/\StWf D d m (zaf c)
def PrO (E D d m:Nat) (p:Pr E D d m):Prop:=(p.1.length<=140737488351232/\p.2.1.length<=140737488351232/\p.2.2.1.length<=140737488351232)/\(∀x∈p.1,x.2.1.length<=140737488351232/\WfD E x.2.2)/\(∀c∈p.2.1,CoO E D d m c)/\(∀c∈p.2.2.1,CoO E D d m c)/\CoO E D d m p.2.2.2
theorem zcp {α:Type} (g:α->Nat) (h:∀x,1<=g x):∀l:List α,l.length<=(l.map g).sum
 | []=>by simp
 | x::r=>by
  have:=zcp g h r;have:=h x;simp only[Yf,YM,Yk];omega
theorem one_sz {E:Nat} {t:Ty E} (h:szD E t<=1000000):za5 E [t]:=zgo (by simpa[szL]using h)
theorem co_of {E D d m:Nat} {c:Co E D d m} (hz:zei E D d m c<=60000) (s:CoO E D d m c):zjb E D d m c/\CoSz E D d m c/\CoWf E D d m c:=by
 obtain⟨⟨I,J,t⟩,u,G,j⟩:=s;have L:(cPs c).length<=szPs E (cPs c):=zcp _ (fun x=>by omega) _;have h:∀x∈cPs c,1+x.1.length+szD E x.2<=szPs E (cPs c):=fun x g=>zbu (YF.2 ⟨x,g,rfl⟩)
 unfold zei at hz;have r:=zlk (show zeh D d m (zaf c)<=1000000 by omega) j;exact⟨⟨by omega,by omega,by omega,fun x g=>⟨by have:=h x g;omega,one_sz (by have:=h x g;omega)⟩,one_sz (by omega),r⟩,⟨by omega,by omega,by omega,fun x g=>⟨by have:=h x g;omega,by have:=h x g;omega⟩,by omega,by omega,r⟩,t,fun x g=>(u x g).2,G,j⟩
theorem zhc {E D d m:Nat} {cs:List (Co E D d m)} {c:Co E D d m} (h:c∈cs):zei E D d m c<=zhr E D d m cs:=zbu (YF.2 ⟨c,h,rfl⟩)
theorem zls {E:Nat} {c:List (De E)} {x:De E} (h:x∈c):1+x.2.1.length+szD E x.2.2<=szDs E c:=zbu (YF.2 ⟨x,h,rfl⟩)
theorem pr_of {E D d m:Nat} {p:Pr E D d m} (hz:szPr E D d m p<=60000) (s:PrO E D d m p):PrFit E D d m p/\PrSz E D d m p/\PrWf E D d m p:=by
 obtain⟨_,t,u,G,I⟩:=s;unfold szPr at hz;have J:p.1.length<=szDs E p.1:=zcp _ (fun x=>by omega) _;have L:p.2.1.length<=zhr E D d m p.2.1:=zcp _ (fun x=>by unfold zei;omega) _;have M:p.2.2.1.length<=zhr E D d m p.2.2.1:=zcp _ (fun x=>by unfold zei;omega) _;have hm:∀c∈p.2.1,zjb E D d m c/\CoSz E D d m c/\CoWf E D d m c:=fun c g=>co_of (by have:=zhc g;omega) (u c g)
 have j:∀c∈p.2.2.1,zjb E D d m c/\CoSz E D d m c/\CoWf E D d m c:=fun c g=>co_of (by have:=zhc g;omega) (G c g)
 have r:=co_of (show zei E D d m p.2.2.2<=60000 by omega) I;exact⟨⟨by omega,fun x h=>⟨by have:=zls h;omega,one_sz (by have:=zls h;omega)⟩,by omega,fun c g=>(hm c g).1,by omega,fun c g=>(j c g).1,r.1⟩,
  ⟨by omega,fun x h=>⟨by have:=zls h;omega,by have:=zls h;omega⟩,by omega,fun c g=>(hm c g).2.1,by omega,fun c g=>(j c g).2.1,r.2.1⟩,
  by omega,fun x h=>(t x h).2,by omega,fun c g=>(hm c g).2.2,by omega,fun c g=>(j c g).2.2,r.2.2⟩
theorem zg9 {E D d m:Nat} {c:Co E D d m} (h:JD E D d m c=true):(zav (zcw c) (JV c)=true->za3 2 (zcw c)=true/\za3 1 (JV c)=true)/\(zdc (zcw c) (JV c)=true->za3 1 (JV c)=true)/\(∀x∈cPs c,JP E 64 x.2=true/\za3 1 x.1=true)/\JP E 64 (zgv c)=true/\za2 D d m 64 (zaf c)=true:=by
 rw[JD]at h;simp only[Yc]at h;obtain⟨⟨⟨⟨⟨r,g⟩,G⟩,j⟩,t⟩,u⟩:=h;refine⟨fun k=>?_,fun k=>?_,fun x s=>?_,t,u⟩
 ·rw[zav,Yc]at k;simp only[k.1,k.2]at r g;exact⟨by simpa using r,by simpa using g⟩
 ·rw[zdc,Yc]at k;simp only[k.2]at g;simpa using g
 ·rw[zgb,Yc,Yn,zaj,Yc,Yn]at j;exact⟨j.1 x s,j.2.1 _ (YF.2 ⟨x,s,rfl⟩)⟩
theorem zkb {α:Type} {f:α->List Tok} {g:α->Nat} (h:∀x,cn (f x)<=9*g x):∀l:List α,cn (l.flatMap f)<=9*(l.map g).sum
 | []=>by simp[JJ]
 | x::r=>by
  have c:=h x;have j:=zkb h r;rw[X6,Jo,Yf,YM];omega
theorem ps_cnt {E:Nat} (c:List (Pa E)):cn (psT E c)<=2+9*szPs E c:=by
 have h:cn ((List.range c.length).flatMap (zar fun i=>(c[i]?.map fun x=>tN x.1::Jf E false x.2).getD []))<=9*szPs E c:=by
  rw[zhj];refine Yh (zew (g:=fun i=>(c[i]?.map fun x:Pa E=>9*(1+x.1.length+szD E x.2)).getD 0) fun i j=>?_) ?_
  ·have s:=cn_comma (fun i=>(c[i]?.map fun x=>tN x.1::Jf E false x.2).getD []) i;refine Yh s ?_;rw[Y6 j];have t:=zdu E false c[i].2;simp only[X5,YY,Jj];omega
  ·refine Yh (zfb c _ _) ?_;unfold szPs
   induction c with
   | nil=>simp
   | cons x r u=>simp only[Yf,YM];omega
 rw[psT,zd3,Jj,Jo,Jj,JJ];omega
theorem co_cnt {E D d m:Nat} (c:Co E D d m):cn (coT E D d m c)<=9*zei E D d m c:=by
 have g:=ps_cnt (cPs c);have h:=zdu E false (zgv c);have j:=st_cnt D d m (zaf c);have r:cn (if zav (zcw c) (JV c)=true then tW [109,101,116,104,111,100]::tT (zcw c)::tS [46]::tN (JV c)::psT E (cPs c)else if zdc (zcw c) (JV c)=true then tW [102,117,110,99]::tN (JV c)::psT E (cPs c)else[tW [109,97,105,110]])<=6+9*szPs E (cPs c):=by
  split
  ·simp only[Jj];omega
  ·split
   ·simp only[Jj];omega
   ·simp only[Jj,JJ];omega
 rw[coT,Jo,Jo,Jj,Jo,Jj,JJ];unfold zei;omega
theorem pr_cnt {E D d m:Nat} (p:Pr E D d m):cn (prT E D d m p)<=9*szPr E D d m p:=by
 have c:cn (p.1.flatMap (deT E))<=9*szDs E p.1:=zkb (fun x=>by
  have:=zdu E false x.2.2;rw[deT];simp only[Jj,Jo,JJ];omega) p.1
 have g:cn (p.2.1.flatMap (coT E D d m))<=9*zhr E D d m p.2.1:=zkb co_cnt _;have h:cn (p.2.2.1.flatMap (coT E D d m))<=9*zhr E D d m p.2.2.1:=zkb co_cnt _;have j:=co_cnt p.2.2.2;rw[prT,Jo,Jo,Jo];unfold szPr;omega
theorem ty_sh {E Z:Nat} {t:Ty E} (h:szD E t<=Z):Sh (20*Z+25) (Jf E false t):=fun x c=>by
 have g1:=zm3 c;have g2:=zkk E false t;unfold fl at g2;omega
theorem co_sh {E D d m Z:Nat} {c:Co E D d m} (g:JD E D d m c=true) (hz:zei E D d m c<=Z):Sh (20*Z+25) (coT E D d m c):=by
 obtain⟨_,_,_,_,h⟩:=zg9 g;unfold zei at hz;have hp:Sh (20*Z+25) (psT E (cPs c)):=sh_args (by omega) fun i=>sh_opt fun x j=>by
  have r:1+x.1.length+szD E x.2<=szPs E (cPs c):=zbu (YF.2 ⟨x,j,rfl⟩);exact sh_N (by omega) (ty_sh (by omega))
 refine Jy (zjv (sh_W (by simp) (sh_T (by omega) (zjp (by simp) (sh_N (by omega) hp)))) (zjv (sh_W (by simp) (sh_N (by omega) hp)) (sh_W (by simp) zak))) (Jy (ty_sh (by omega)) (zjp (by simp) (Jy (st_short D d Z m _ _ h (by omega)) (zjp (by simp) zak))))
theorem co_snd {E D d m:Nat} {c:Co E D d m} (r:JD E D d m c=true):(coT E D d m c).all sound=true:=by
 obtain⟨g,s,h,t,u⟩:=zg9 r;have hp:(psT E (cPs c)).all sound=true:=snd_args fun i _=>zey fun x j=>Jv (h x j).2 (ze0 E false _ 64 (h x j).1)
 refine zao (iteB (P:=fun l=>l.all sound=true) (fun k=>?_) fun _=>iteB (P:=fun l=>l.all sound=true) (fun k=>?_) fun _=>by decide +kernel) (zao (ze0 E false _ 64 t) (Jv (by decide +kernel) (zao (st_sound D d m _ _ u) (by decide +kernel))))
 ·exact Jv (by decide +kernel) (Jv (g k).1 (Jv (by decide +kernel) (Jv (g k).2 hp)))
 ·exact Jv (by decide +kernel) (Jv (s k) hp)
theorem zlu {α:Type} {l:List α} {f:α->List Tok} (h:∀a∈l,(f a).all sound=true):(l.flatMap f).all sound=true:=by
 rw[List.all_flatMap,Yn];exact h
theorem zfe {E D d m:Nat} {p:Pr E D d m} (h:zb9 E D d m p=true):(∀x∈p.1,za3 2 x.2.1=true/\JP E 64 x.2.2=true)/\(∀c∈p.2.1,JD E D d m c=true)/\(∀c∈p.2.2.1,JD E D d m c=true)/\JD E D d m p.2.2.2=true:=by
 rw[zb9]at h;simp only[Yc,zc5,Yn]at h;obtain⟨⟨⟨⟨j,r⟩,s⟩,_⟩,t⟩:=h;exact⟨j,fun c g=>(r c g).2,fun c g=>(s c g).2,t⟩
theorem pr_sh {E D d m Z:Nat} {p:Pr E D d m} (h:zb9 E D d m p=true) (hz:szPr E D d m p<=Z):Sh (20*Z+25) (prT E D d m p):=by
 obtain⟨u,j,r,s⟩:=zfe h;unfold szPr at hz;refine Jy (zjm fun x t=>?_) (Jy (zjm fun c g=>co_sh (j c g) (by have:=zhc g;omega)) (Jy (zjm fun c g=>co_sh (r c g) (by have:=zhc g;omega)) (co_sh s (by omega))));have G:=zls t;exact sh_W (by simp) (sh_T (by omega) (zjp (by simp) (Jy (ty_sh (by omega)) (zjp (by simp) zak))))
theorem pr_snd {E D d m:Nat} {p:Pr E D d m} (r:zb9 E D d m p=true):(prT E D d m p).all sound=true:=by
 obtain⟨h,s,t,u⟩:=zfe r;refine zao (zlu fun x j=>?_) (zao (zlu fun c g=>co_snd (s c g)) (zao (zlu fun c g=>co_snd (t c g)) (co_snd u)));exact Jv (by decide +kernel) (Jv (h x j).1 (Jv (by decide +kernel) (zao (ze0 E false _ 64 (h x j).2) (by decide +kernel))))
def coS (E D d m:Nat) (c:Co E D d m):List Bs:=(coT E D d m c).map J5
def prS (E D d m:Nat) (p:Pr E D d m):List Bs:=(prT E D d m p).map J5
theorem coS_le {E D d m:Nat} (c:Co E D d m):(coS E D d m c).length<=9*zei E D d m c:=by rw[coS,Xy];exact co_cnt c
theorem prS_le {E D d m:Nat} (p:Pr E D d m):(prS E D d m p).length<=9*szPr E D d m p:=by rw[prS,Xy];exact pr_cnt p
theorem coS_sh {E D d m:Nat} {c:Co E D d m} (g:JD E D d m c=true) {s:Bs} (h:s∈coS E D d m c):s.length<=20*zei E D d m c+25:=by
 obtain⟨t,j,rfl⟩:=YF.1 h;exact co_sh g (Y5 _) t j
theorem prS_sh {E D d m:Nat} {p:Pr E D d m} (c:zb9 E D d m p=true) {s:Bs} (h:s∈prS E D d m p):s.length<=20*szPr E D d m p+25:=by
 obtain⟨t,g,rfl⟩:=YF.1 h;exact pr_sh c (Y5 _) t g
theorem co_text {E D d m:Nat} {c:Co E D d m} (h:JD E D d m c=true):zdd (coS E D d m c)=zhg E D d m c:=by
 rw[zhg,Ye h];exact text_join (co_snd h)
theorem pr_text {E D d m:Nat} {p:Pr E D d m} (h:zb9 E D d m p=true):zdd (prS E D d m p)=zhs E D d m p:=by
 rw[zhs,Ye h];exact text_join (pr_snd h)
abbrev SizeC (F:FuncId) (v:Value) (z:Nat) (w:Zw):Prop:=∀(q:Int) (c:Nat) (W:Zw),q=c->ZB w W->1<=c->c<=100000->Zg F #[v,Zi q] W fun e w'=>(∃n:Nat,e=.returned (Zi (n:Nat))/\n<=c+2000000000000000/\(n<c->n=z))/\ZB W w'
theorem szPs_take {E:Nat} {c:List (Pa E)} {k:Nat} (h:k<c.length):szPs E (c.take (k+1))=szPs E (c.take k)+(1+c[k].1.length+szD E c[k].2):=by
 unfold szPs;rw[Yq h,Yj,Yx];simp
theorem szDs_take {E:Nat} {c:List (De E)} {k:Nat} (h:k<c.length):szDs E (c.take (k+1))=szDs E (c.take k)+(1+c[k].2.1.length+szD E c[k].2.2):=by
 unfold szDs;rw[Yq h,Yj,Yx];simp
theorem szCs_take {E D d m:Nat} {c:List (Co E D d m)} {k:Nat} (h:k<c.length):zhr E D d m (c.take (k+1))=zhr E D d m (c.take k)+zei E D d m c[k]:=by
 unfold zhr;rw[Yq h,Yj,Yx];simp
theorem zk5 (s:Bs):ByteArray.size ⟨s.toArray⟩=s.length:=by show s.toArray.size=_;simp
theorem zl2 (E D d m:Nat) (x:C10) (c:Co E D d m) (w:Zw) (hv:CoIs w E D d m x c) (ho:CoO E D d m c):SizeC 15 x.val (zei E D d m c) w:=fun q j W aD hW h1 aE=>by
 subst aD;obtain⟨A,O,N,pq,nq,cq,⟨K,S,pn,pe,pp,nn,cn,ne,ce,np,cp⟩,pb,nb,cb⟩:=x;obtain⟨_,hO,hN,hq,hT,hb⟩:=hv.below hW;obtain⟨⟨o1,o2,o3⟩,o4,o5,o6⟩:=ho;dsimp only at hO hN hq hT hb;have ag:=hq.len;have bO:O.size=(zcw c).length:=by rw[hO,zk5]
 have bN:N.size=(JV c).length:=by rw[hN,zk5]
 have au:nb=(zaf c).length:=by
  obtain⟨p',c',e⟩:=hb.slice;injection e
 obtain⟨_,_,e,hp⟩:=hq;injection e with e1 e2 e3
 subst e1;have HP:=J3 hp;have KT:=J3 hT;have KB:=J3 hb;have av:=J3 ag;have aw:=J3 au;have F2:=J3 o4;have F3:=J3 o5;have F4:=J3 o6;have HZ:ZH (zei E D d m c=1+O.size+N.size+szD E (zgv c)+szPs E (cPs c)+zeh D d m (zaf c)):=by show _=_;rw[bO,bN];rfl
 rw[<-ag]at o3;rw[<-bO]at o1;rw[<-bN]at o2;clear hO hN hp hT hb ag au e2 e3 o4 o5 o6 hW bO bN hv;go_enter Tryz.func15,Tryz.ntmps15;go_upto_region 1 with fail
 obtain⟨W0,ab⟩:=Ze (W.alloc (Obj.cells #[Zi A,.string O,.string N,.slice pq nq cq,Zi K,.string S,.slice pn nn cn,.slice pe ne ce,.slice pp np cp,.slice pb nb cb] 34):Zw)
 obtain⟨g0,ah⟩:∃g:Nat,g=W.heap.size:=⟨_,rfl⟩
 rw[<-ab,<-ah];have C0:ZH (ZL10 W0 g0 (Zi A) (.string O) (.string N) (.slice pq nq cq) (Zi K) (.string S) (.slice pn nn cn) (.slice pe ne ce) (.slice pp np cp) (.slice pb nb cb)):=by rw[ab,ah];exact zbr (x:=⟨A,O,N,pq,nq,cq,⟨K,S,pn,pe,pp,nn,cn,ne,ce,np,cp⟩,pb,nb,cb⟩) Zr
 have H0:ZH (ZB W W0):=by rw[ab];exact Za _ _
 clear ab ah;have G:ZH (∀V,ZB W0 V->ZB W V):=fun V h=>Zn H0 h
 have CC:ZH (∀V,ZB W0 V->ZL10 V g0 (Zi A) (.string O) (.string N) (.slice pq nq cq) (Zi K) (.string S) (.slice pn nn cn) (.slice pe ne ce) (.slice pp np cp) (.slice pb nb cb)):=fun V h=>zbp C0 h
 have RT:ZH (∀V,ZB W0 V->Zg 16 #[(.agg #[Zi K,.string S,.slice pn nn cn,.slice pe ne ce,.slice pp np cp]),Zi (j:Int)] V fun e w'=>(∃n:Nat,e=.returned (Zi (n:Nat))/\n<=j+422212465053696/\(n<j->n=szD E (zgv c)))/\ZB V w'):=fun V h=>zgi E _ _ _ j V rfl (TyValD.below (G V h) KT) F3 h1 aE
 have RS:ZH (∀(V:Zw) (n:Nat),ZB W0 V->n<j->Zg 48 #[.slice pb nb cb,Zi ((j:Int)-n)] V fun e w'=>(∃z:Nat,e=.returned (Zi (z:Nat))/\z<=j-n+422212465053696/\(z<j-n->z=zeh D d m (zaf c)))/\ZB V w'):=fun V n h hn=>by
  have h1:=J0 KB;have e:=J0 aw;rw[e]at h1 ⊢;exact zlo D d m _ _ _ W h1 F4 ((j:Int)-n) (j-n) V (by omega) (G V h) (by omega) (by omega)
 clear KT KB aw F3 F4;have e1:IntKind.i64.wrap (1+(O.size:Int))=1+O.size:=by rw[YJ];omega
 have e2:IntKind.i64.wrap (1+(O.size:Int)+N.size)=1+O.size+N.size:=by rw[YJ];omega
 obtain⟨I,J,L,c3,c4,c5,M,U,Y,Z⟩:=J0 C0
 go_region_held3 (fun V=>V.cell? ⟨g0,1,none⟩=some (.string O)/\V.cell? ⟨g0,2,none⟩=some (.string N)/\V.cell? ⟨g0,4,none⟩=some (Zi K)/\V.cell? ⟨g0,5,none⟩=some (.string S)/\V.cell? ⟨g0,6,none⟩=some (.slice pn nn cn)/\V.cell? ⟨g0,7,none⟩=some (.slice pe ne ce)/\V.cell? ⟨g0,8,none⟩=some (.slice pp np cp)) (go_keep) (first|(go_at_call 16;refine(RT _ (zas Zr)).mono ?_;clear RT;rintro e w1 ⟨⟨n1,rfl,aM,ac⟩,r⟩;have e3:IntKind.i64.wrap (1+(O.size:Int)+N.size+n1)=1+O.size+N.size+n1:=(by rw[YJ];omega);clear I J L c3 c4 c5 M U Y Z;obtain⟨I,J,L,c3,c4,c5,M,U,Y,Z⟩:=CC _ (JO r)))
 have ad:=J3 (JO r);have ax:=J3 ac;clear r ac I J L c3 c4 c5 M U Y Z e1 e2 e3;obtain⟨n0,ay⟩:∃n:Nat,n=1+O.size+N.size+n1:=⟨_,rfl⟩
 have aF:n0<=j+2000000000000000:=by omega
 have ai:=J3 ay;go_wp2
 go_loopg [5,6] nq (fun gk vn i wr=>∃k n:Nat,i=Zi k/\vn=Zi n/\k+gk=nq/\n<=j+2000000000000000/\ZH (n<j->n=1+O.size+N.size+szD E (zgv c)+szPs E ((cPs c).take k))/\ZH (ZB W0 wr))
 case atStart=>exact⟨0,n0,rfl,(by have:=J0 ai;go_num),by omega,aF,(by have h4:=J0 ai;have h5:=J0 ax;show _->_;intro h;have:=h5 (by omega);simp[szPs];omega),ad⟩
 case round=>
  obtain⟨k,n,rfl,rfl,hk,hn,HM,u⟩:=hrel;clear ax ai ay ad;obtain⟨I,J,L,c3,c4,c5,M,U,Y,Z⟩:=CC _ u;by_cases hc:k<nq/\n<j
  ·obtain⟨az,aa⟩:=hc;have aG:(k:Int)<(nq:Int):=by omega
   have aN:(0:Int)<=(k:Int):=by omega
   have aA:(n:Int)<(j:Int):=by omega
   have aB:k<(cPs c).length:=by have:=J0 av;omega
   obtain⟨g,o,⟨K',S',aj,ak,al,am,an,ne',ao,ap,aq⟩,rfl,a0,a1,a2⟩:=HP k (cPs c)[k] (by simp[aB]);obtain⟨j1,j2⟩:=F2 (cPs c)[k] (by simp);have ae:=szPs_take aB;generalize (cPs c)[k]=pk at a0 a2 j1 j2 ae;obtain⟨s,t⟩:=pk;dsimp only at a0 a2 j1 j2 ae;have aH:=J3 ae;obtain⟨X,ar⟩:=Ze (⟨s.toArray⟩:Zy)
   rw[<-ar]at a0;have CX:ZH (∀V,ZB W0 V->ZK6 V g (o+k*6) (.string X) (Zi K') (.string S') (.slice aj am an) (.slice ak ne' ao) (.slice al ap aq)):=fun V h=>by
    have hw:=G V h;obtain⟨x1,x2,x3,x4,x5⟩:=a1.below hw;exact⟨(hw.cell (p:=⟨g,_,none⟩) (J2 a0)).trans a0,x1,x2,x3,x4,x5⟩
   have RK:ZH (∀V,ZB W0 V->Zg 16 #[(.agg #[Zi K',.string S',.slice aj am an,.slice ak ne' ao,.slice al ap aq]),Zi ((j:Int)-n)] V fun e w'=>(∃z:Nat,e=.returned (Zi (z:Nat))/\z<=j-n+422212465053696/\(z<j-n->z=szD E t))/\ZB V w'):=fun V h=>zgi E _ _ _ (j-n) V (by omega) (TyValD.below (G V h) a2) j2 (by omega) (by omega)
   have aC:ZH (X.size=s.length):=by show _=_;rw[ar,zk5]
   have bX:X.size<=140737488351232:=by have:=J0 aC;omega
   have e4:IntKind.i64.wrap ((n:Int)+1)=n+1:=by rw[YJ];omega
   have e5:IntKind.i64.wrap ((n:Int)+1+X.size)=n+1+X.size:=by rw[YJ];omega
   have e6:IntKind.i64.wrap ((j:Int)-n)=j-n:=by rw[YJ];omega
   clear ar;clear a0 a1 a2 ae j2 HP F2 RS;obtain⟨f0,f1,f2,f3,f4,f5⟩:=CX _ u;go_upto_region 5 with fail
   go_region_held3 (fun V=>V.cell? ⟨g0,3,none⟩=some (.slice (Zs g o) nq cq)/\V.cell? ⟨g,o+k*6,none⟩=some (.string X)/\V.cell? ⟨g,o+k*6+1,none⟩=some (Zi K')/\V.cell? ⟨g,o+k*6+2,none⟩=some (.string S')/\V.cell? ⟨g,o+k*6+3,none⟩=some (.slice aj am an)/\V.cell? ⟨g,o+k*6+4,none⟩=some (.slice ak ne' ao)/\V.cell? ⟨g,o+k*6+5,none⟩=some (.slice al ap aq)) (go_keep) (first|(go_at_call 16;refine(RK _ (zas u)).mono ?_;clear RK;rintro e w1 ⟨⟨z,rfl,ac,af⟩,r⟩;have e7:IntKind.i64.wrap ((n:Int)+1+X.size+z)=n+1+X.size+z:=(by rw[YJ];omega);clear I J L c3 c4 c5 M U Y Z f0 f1 f2 f3 f4 f5;replace r:=u.trans ((JO r).mono u.size);obtain⟨I,J,L,c3,c4,c5,M,U,Y,Z⟩:=CC _ r;obtain⟨f0,f1,f2,f3,f4,f5⟩:=CX _ r))
   have ad:=J3 r;have aI:=J3 af;clear af r f0 f1 f2 f3 f4 f5 CX e4 e5 e6 e7;go_wp2;go_roundg (nq-(k+1))
   case measure=>omega
   case rel=>exact⟨k+1,n+1+X.size+z,by go_num,by go_num,by omega,by omega,(by have:=HM aa;have:=J0 aH;have:=J0 aC;show _->_;intro h;have h5:=aI (by omega);omega),ad⟩
  ·have aJ:ZH (n<j->n=1+O.size+N.size+szD E (zgv c)+szPs E (cPs c)):=fun h=>by
    have aK:k=(cPs c).length:=by have:=J0 av;omega
    have:=HM h;rw[aK,Yr]at this;exact this
   clear HM HP F2;by_cases aa:n<j
   ·have aG:¬(k:Int)<(nq:Int):=by omega
    have aA:(n:Int)<(j:Int):=by omega
    have CL:=J3 (J0 RS _ n u aa);clear RS hc;go_wp2_with (go_at_call 48;refine CL.mono ?_;clear CL;rintro e w2 ⟨⟨z,rfl,ac,af⟩,aL⟩);go_ret;exact⟨⟨n+z,by go_num,by omega,fun h=>by have:=aJ aa;have:=af (by omega);have:=J0 HZ;omega⟩,G _ (Zn u aL)⟩
   ·have hx:(k:Int)<(nq:Int)∨¬(k:Int)<(nq:Int):=by omega
    have aA:¬(n:Int)<(j:Int):=by omega
    clear hc RS;rcases hx with az|az
    all_goals
     go_wp2;go_ret;exact⟨⟨n,rfl,hn,fun h=>absurd h aa⟩,G _ u⟩
theorem sizeP_any (E D d m:Nat) (x:P13) (p:Pr E D d m) (w:Zw) (hv:PrIs w E D d m x p) (ho:PrO E D d m p):SizeC 4 x.val (szPr E D d m p) w:=fun q c W aL hW h1 aM=>by
 subst aL;obtain⟨pd,nd,cd,pm,nm,cm,pf,nf,cf,⟨A,O,N,pq,nq,cq,⟨K,S,pn,pe,pp,nn,cn,ne,ce,np,cp⟩,pb,nb,cb⟩⟩:=x;obtain⟨v1,v2,v3,v4⟩:=hv.below hW;obtain⟨⟨o1,o2,o3⟩,o4,o5,o6,o7⟩:=ho;dsimp only at v1 v2 v3 v4;have l1:=v1.len;have l2:=v2.len;have l3:=v3.len;rw[<-l1]at o1;rw[<-l2]at o2;rw[<-l3]at o3;obtain⟨_,_,e,hd⟩:=v1;injection e with e1 e2 e3
 subst e1;obtain⟨_,_,e,hm⟩:=v2;injection e with e1 e4 e5
 subst e1;obtain⟨_,_,e,hf⟩:=v3;injection e with e1 e6 e7
 subst e1;have HD:=J3 hd;have aA:=J3 hm;have aB:=J3 hf;have aC:=J3 l1;have aD:=J3 l2;have aE:=J3 l3;have FD:=J3 o4;have FM:=J3 o5;have FF:=J3 o6;have aF:=J3 v4;have aG:=J3 o7;clear hd hm hf l1 l2 l3 o4 o5 o6 e2 e3 e4 e5 e6 e7 hW hv v4 o7;go_enter Tryz.func4,Tryz.ntmps4;go_upto_region 1 with fail
 obtain⟨W0,av⟩:=Ze (W.alloc (Obj.cells #[.slice pd nd cd,.slice pm nm cm,.slice pf nf cf,Zi A,.string O,.string N,.slice pq nq cq,Zi K,.string S,.slice pn nn cn,.slice pe ne ce,.slice pp np cp,.slice pb nb cb] 36):Zw)
 obtain⟨g0,ay⟩:∃g:Nat,g=W.heap.size:=⟨_,rfl⟩
 rw[<-av,<-ay];have C0:ZH (ZL13 W0 g0 (.slice pd nd cd) (.slice pm nm cm) (.slice pf nf cf) (Zi A) (.string O) (.string N) (.slice pq nq cq) (Zi K) (.string S) (.slice pn nn cn) (.slice pe ne ce) (.slice pp np cp) (.slice pb nb cb)):=by rw[av,ay];exact zbj (x:=⟨pd,nd,cd,pm,nm,cm,pf,nf,cf,⟨A,O,N,pq,nq,cq,⟨K,S,pn,pe,pp,nn,cn,ne,ce,np,cp⟩,pb,nb,cb⟩⟩) Zr
 have H0:ZH (ZB W W0):=by rw[av];exact Za _ _
 clear av ay;have ah:ZH (∀V,ZB W0 V->ZB W V):=fun V h=>Zn H0 h
 have CC:ZH (∀V,ZB W0 V->ZL13 V g0 (.slice pd nd cd) (.slice pm nm cm) (.slice pf nf cf) (Zi A) (.string O) (.string N) (.slice pq nq cq) (Zi K) (.string S) (.slice pn nn cn) (.slice pe ne ce) (.slice pp np cp) (.slice pb nb cb)):=fun V h=>zc1 C0 h
 have CM:=J3 (zl2 E D d m ⟨A,O,N,pq,nq,cq,⟨K,S,pn,pe,pp,nn,cn,ne,ce,np,cp⟩,pb,nb,cb⟩ p.2.2.2 W aF aG c c W0 rfl H0 h1 aM);obtain⟨r,u,G,c3,c4,c5,I,J,L,M,U,Y,Z⟩:=J0 C0
 go_cut [5] (fun vn wx=>∃(n:Nat) (Wy:Zw),vn=Zi n/\Wy=wx/\n<=c+2000000000000000/\ZH (n<c->n=zei E D d m p.2.2.2)/\ZH (ZB W0 Wy))
 case first=>
  go_wp2_with (go_at_call 15;refine CM.mono ?_;clear CM;rintro e w1 ⟨⟨z,rfl,aw,ad⟩,aa⟩);go_meet
  case rel=>exact⟨z,_,rfl,rfl,aw,ad,aa⟩
 case rest=>
 clear CM aF aG r u G c3 c4 c5 I J L M U Y Z;obtain⟨n0,W1,rfl,rfl,ab,ac,j⟩:=hcut;obtain⟨r,u,G,c3,c4,c5,I,J,L,M,U,Y,Z⟩:=CC _ j;go_upto_block 0 with fail
 go_cut [5] (fun vn wx=>∃(n:Nat) (Wy:Zw),vn=Zi n/\Wy=wx/\n<=c+2000000000000000/\ZH (n<c->n=zei E D d m p.2.2.2+szDs E p.1)/\ZH (ZB W0 Wy))
 case first=>
  go_wp2_with fail
  go_loopg [5,6] nd (fun gk vn i wr=>∃k n:Nat,i=Zi k/\vn=Zi n/\k+gk=nd/\n<=c+2000000000000000/\ZH (n<c->n=zei E D d m p.2.2.2+szDs E (p.1.take k))/\ZH (ZB W0 wr))
  case atStart=>exact⟨0,n0,rfl,rfl,by omega,ab,(by have:=J0 ac;show _->_;intro h;have:=this h;simp[szDs]at this ⊢;omega),j⟩
  case round=>
   obtain⟨k,n,rfl,rfl,hk,hn,HM,j⟩:=hrel;clear r u G c3 c4 c5 I J L M U Y Z;obtain⟨r,u,G,c3,c4,c5,I,J,L,M,U,Y,Z⟩:=CC _ j;by_cases hc:k<nd/\n<c
   ·obtain⟨ae,af⟩:=hc;have aH:(k:Int)<(nd:Int):=by omega
    have aI:(0:Int)<=(k:Int):=by omega
    have aJ:(n:Int)<(c:Int):=by omega
    have ag:k<p.1.length:=by have:=J0 aC;omega
    obtain⟨g,o,⟨K',S',ai,aj,ak,al,am,ne',an,ao,ap⟩,rfl,a0,a1,a2,a3⟩:=HD k p.1[k] (by simp[ag]);obtain⟨j1,j2⟩:=FD p.1[k] (by simp);have ax:=szDs_take ag;generalize p.1[k]=pk at a1 a3 j1 j2 ax a0;obtain⟨z0,s,t⟩:=pk;dsimp only at a1 a3 j1 j2 ax;have aq:=J3 ax;obtain⟨X,az⟩:=Ze (⟨s.toArray⟩:Zy)
    rw[<-az]at a1;have CX:ZH (∀V,ZB W0 V->V.cell? ⟨g,o+k*7+1,none⟩=some (.string X)/\V.cell? ⟨g,o+k*7+2,none⟩=some (Zi K')/\V.cell? ⟨g,o+k*7+3,none⟩=some (.string S')/\V.cell? ⟨g,o+k*7+4,none⟩=some (.slice ai al am)/\V.cell? ⟨g,o+k*7+5,none⟩=some (.slice aj ne' an)/\V.cell? ⟨g,o+k*7+6,none⟩=some (.slice ak ao ap)):=fun V h=>by
     have hw:=ah V h;obtain⟨x1,x2,x3,x4,x5⟩:=a2.below hw;exact⟨(hw.cell (p:=⟨g,_,none⟩) (J2 a1)).trans a1,x1,x2,x3,x4,x5⟩
    have RK:ZH (∀V,ZB W0 V->Zg 16 #[(.agg #[Zi K',.string S',.slice ai al am,.slice aj ne' an,.slice ak ao ap]),Zi ((c:Int)-n)] V fun e w'=>(∃z:Nat,e=.returned (Zi (z:Nat))/\z<=c-n+422212465053696/\(z<c-n->z=szD E t))/\ZB V w'):=fun V h=>zgi E _ _ _ (c-n) V (by omega) (TyValD.below (ah V h) a3) j2 (by omega) (by omega)
    have aK:ZH (X.size=s.length):=by show _=_;rw[az,zk5]
    have bX:X.size<=140737488351232:=by have:=J0 aK;omega
    have e4:IntKind.i64.wrap ((n:Int)+1)=n+1:=by rw[YJ];omega
    have e5:IntKind.i64.wrap ((n:Int)+1+X.size)=n+1+X.size:=by rw[YJ];omega
    have e6:IntKind.i64.wrap ((c:Int)-n)=c-n:=by rw[YJ];omega
    clear az;clear a0 a1 a2 a3 ax j2;obtain⟨f0,f1,f2,f3,f4,f5⟩:=CX _ j;go_upto_region 5 with fail
    go_region_held3 (fun V=>V.cell? ⟨g0,0,none⟩=some (.slice (Zs g o) nd cd)/\V.cell? ⟨g,o+k*7+1,none⟩=some (.string X)/\V.cell? ⟨g,o+k*7+2,none⟩=some (Zi K')/\V.cell? ⟨g,o+k*7+3,none⟩=some (.string S')/\V.cell? ⟨g,o+k*7+4,none⟩=some (.slice ai al am)/\V.cell? ⟨g,o+k*7+5,none⟩=some (.slice aj ne' an)/\V.cell? ⟨g,o+k*7+6,none⟩=some (.slice ak ao ap)) (go_keep) (first|(go_at_call 16;refine(RK _ (zas j)).mono ?_;clear RK;rintro e w1 ⟨⟨z,rfl,aw,ad⟩,aa⟩;have e7:IntKind.i64.wrap ((n:Int)+1+X.size+z)=n+1+X.size+z:=(by rw[YJ];omega);clear r u G c3 c4 c5 I J L M U Y Z f0 f1 f2 f3 f4 f5;replace aa:=j.trans ((JO aa).mono j.size);obtain⟨r,u,G,c3,c4,c5,I,J,L,M,U,Y,Z⟩:=CC _ aa;obtain⟨f0,f1,f2,f3,f4,f5⟩:=CX _ aa))
    have aN:=J3 aa;have aO:=J3 ad;clear ad aa f0 f1 f2 f3 f4 f5 CX e4 e5 e6 e7;go_wp2_with fail;go_roundg (nd-(k+1))
    case measure=>omega
    case rel=>exact⟨k+1,n+1+X.size+z,by go_num,by go_num,by omega,by omega,(by have:=HM af;have:=J0 aq;have:=J0 aK;show _->_;intro h;have:=aO (by omega);omega),aN⟩
   ·have ar:ZH (n<c->n=zei E D d m p.2.2.2+szDs E p.1):=fun h=>by
     have au:k=p.1.length:=by have:=J0 aC;omega
     have:=HM h;rw[au,Yr]at this;exact this
    have hx:((k:Int)<(nd:Int)/\(c:Int)<=(n:Int))∨¬(k:Int)<(nd:Int):=by omega
    clear hc HM;rcases hx with⟨ae,af⟩|ae
    all_goals
     go_wp2_with fail;go_meet
     case rel=>exact⟨n,_,rfl,rfl,hn,ar,j⟩
 case rest=>
 clear ab ac j r u G c3 c4 c5 I J L M U Y Z;obtain⟨n0,W1,rfl,rfl,ab,ac,j⟩:=hcut;obtain⟨r,u,G,c3,c4,c5,I,J,L,M,U,Y,Z⟩:=CC _ j;go_upto_block 2 with fail
 go_cut [5] (fun vn wx=>∃(n:Nat) (Wy:Zw),vn=Zi n/\Wy=wx/\n<=c+2000000000000000/\ZH (n<c->n=zei E D d m p.2.2.2+szDs E p.1+zhr E D d m p.2.1)/\ZH (ZB W0 Wy))
 case first=>
  go_wp2_with fail
  go_loopg [5,7] nm (fun gk vn i wr=>∃k n:Nat,i=Zi k/\vn=Zi n/\k+gk=nm/\n<=c+2000000000000000/\ZH (n<c->n=zei E D d m p.2.2.2+szDs E p.1+zhr E D d m (p.2.1.take k))/\ZH (ZB W0 wr))
  case atStart=>exact⟨0,n0,rfl,rfl,by omega,ab,(by have:=J0 ac;show _->_;intro h;have:=this h;simp[zhr]at this ⊢;omega),j⟩
  case round=>
   obtain⟨k,n,rfl,rfl,hk,hn,HM,j⟩:=hrel;clear r u G c3 c4 c5 I J L M U Y Z;obtain⟨r,u,G,c3,c4,c5,I,J,L,M,U,Y,Z⟩:=CC _ j;by_cases hc:k<nm/\n<c
   ·obtain⟨ae,af⟩:=hc;have aH:(k:Int)<(nm:Int):=by omega
    have aI:(0:Int)<=(k:Int):=by omega
    have aJ:(n:Int)<(c:Int):=by omega
    have ag:k<p.2.1.length:=by have:=J0 aD;omega
    obtain⟨g,o,⟨A',O',N',aP,aQ,aR,⟨K',S',ai,aj,ak,al,am,ne',an,ao,ap⟩,aS,aT,aU⟩,rfl,a0,a1⟩:=aA k p.2.1[k] (by simp[ag]);have CL:=J3 (zl2 E D d m _ p.2.1[k] W a1 (FM _ (by simp)) ((c:Int)-n) (c-n) _ (by omega) (ah _ j) (by omega) (by omega));have aq:=J3 (szCs_take ag);obtain⟨x0,x1,x2,x3,⟨x4,x5,x6,x7,x8⟩,x9⟩:=a0.below (ah _ j);clear a0 a1;go_wp2_with (go_at_call 15;refine CL.mono ?_;clear CL;rintro e w1 ⟨⟨z,rfl,aw,ad⟩,aa⟩);go_roundg (nm-(k+1))
    case measure=>omega
    case rel=>exact⟨k+1,n+z,by go_num,by go_num,by omega,by omega,(by have:=HM af;have:=J0 aq;show _->_;intro h;have:=ad (by omega);omega),Zn j aa⟩
   ·have ar:ZH (n<c->n=zei E D d m p.2.2.2+szDs E p.1+zhr E D d m p.2.1):=fun h=>by
     have au:k=p.2.1.length:=by have:=J0 aD;omega
     have:=HM h;rw[au,Yr]at this;exact this
    have hx:((k:Int)<(nm:Int)/\(c:Int)<=(n:Int))∨¬(k:Int)<(nm:Int):=by omega
    clear hc HM;rcases hx with⟨ae,af⟩|ae
    all_goals
     go_wp2_with fail;go_meet
     case rel=>exact⟨n,_,rfl,rfl,hn,ar,j⟩
 case rest=>
 clear ab ac j r u G c3 c4 c5 I J L M U Y Z;obtain⟨n0,W1,rfl,rfl,ab,ac,j⟩:=hcut;obtain⟨r,u,G,c3,c4,c5,I,J,L,M,U,Y,Z⟩:=CC _ j;go_upto_block 4 with fail
 go_cut [5] (fun vn wx=>∃(n:Nat) (Wy:Zw),vn=Zi n/\Wy=wx/\n<=c+2000000000000000/\ZH (n<c->n=zei E D d m p.2.2.2+szDs E p.1+zhr E D d m p.2.1+zhr E D d m p.2.2.1)/\ZH (ZB W0 Wy))
 case first=>
  go_wp2_with fail
  go_loopg [5,8] nf (fun gk vn i wr=>∃k n:Nat,i=Zi k/\vn=Zi n/\k+gk=nf/\n<=c+2000000000000000/\ZH (n<c->n=zei E D d m p.2.2.2+szDs E p.1+zhr E D d m p.2.1+zhr E D d m (p.2.2.1.take k))/\ZH (ZB W0 wr))
  case atStart=>exact⟨0,n0,rfl,rfl,by omega,ab,(by have:=J0 ac;show _->_;intro h;have:=this h;simp[zhr]at this ⊢;omega),j⟩
  case round=>
   obtain⟨k,n,rfl,rfl,hk,hn,HM,j⟩:=hrel;clear r u G c3 c4 c5 I J L M U Y Z;obtain⟨r,u,G,c3,c4,c5,I,J,L,M,U,Y,Z⟩:=CC _ j;by_cases hc:k<nf/\n<c
   ·obtain⟨ae,af⟩:=hc;have aH:(k:Int)<(nf:Int):=by omega
    have aI:(0:Int)<=(k:Int):=by omega
    have aJ:(n:Int)<(c:Int):=by omega
    have ag:k<p.2.2.1.length:=by have:=J0 aE;omega
    obtain⟨g,o,⟨A',O',N',aP,aQ,aR,⟨K',S',ai,aj,ak,al,am,ne',an,ao,ap⟩,aS,aT,aU⟩,rfl,a0,a1⟩:=aB k p.2.2.1[k] (by simp[ag]);have CL:=J3 (zl2 E D d m _ p.2.2.1[k] W a1 (FF _ (by simp)) ((c:Int)-n) (c-n) _ (by omega) (ah _ j) (by omega) (by omega));have aq:=J3 (szCs_take ag);obtain⟨x0,x1,x2,x3,⟨x4,x5,x6,x7,x8⟩,x9⟩:=a0.below (ah _ j);clear a0 a1;go_wp2_with (go_at_call 15;refine CL.mono ?_;clear CL;rintro e w1 ⟨⟨z,rfl,aw,ad⟩,aa⟩);go_roundg (nf-(k+1))
    case measure=>omega
    case rel=>exact⟨k+1,n+z,by go_num,by go_num,by omega,by omega,(by have:=HM af;have:=J0 aq;show _->_;intro h;have:=ad (by omega);omega),Zn j aa⟩
   ·have ar:ZH (n<c->n=zei E D d m p.2.2.2+szDs E p.1+zhr E D d m p.2.1+zhr E D d m p.2.2.1):=fun h=>by
     have au:k=p.2.2.1.length:=by have:=J0 aE;omega
     have:=HM h;rw[au,Yr]at this;exact this
    have hx:((k:Int)<(nf:Int)/\(c:Int)<=(n:Int))∨¬(k:Int)<(nf:Int):=by omega
    clear hc HM;rcases hx with⟨ae,af⟩|ae
    all_goals
     go_wp2_with fail;go_meet
     case rel=>exact⟨n,_,rfl,rfl,hn,ar,j⟩
 case rest=>
 clear ab ac j r u G c3 c4 c5 I J L M U Y Z;obtain⟨n0,W1,rfl,rfl,ab,ac,j⟩:=hcut;obtain⟨r,u,G,c3,c4,c5,I,J,L,M,U,Y,Z⟩:=CC _ j;clear HD aA aB;go_wp2_with fail;go_ret;exact⟨⟨n0,rfl,ab,fun h=>(ac h).trans rfl⟩,ah _ j⟩
open Go Go.ChangeShapes Go.WideShapes Go.ChangeAt Go.RowKit Go.Deep Lx
theorem bytes_pa:Tryz.prog.bytesOf 94=112:=by kernel_rfl
theorem cells_pa:Tryz.prog.cellsOf 94=6:=by kernel_rfl
theorem bytes_de:Tryz.prog.bytesOf 52=120:=by kernel_rfl
theorem cells_de:Tryz.prog.cellsOf 52=7:=by kernel_rfl
theorem bytes_co:Tryz.prog.bytesOf 34=184:=by kernel_rfl
theorem cells_co:Tryz.prog.cellsOf 34=10:=by kernel_rfl
theorem cells_pr:Tryz.prog.cellsOf 36=13:=by kernel_rfl
section
variable {H:Type} {enc:TypeId×Value->H} {W:Zw}
theorem zma {α:Type} [Inhabited α] {t e:TypeId} {n c:Nat} {v:Value} {x:DataW H×List MemPlace} (R:List Value->α->Prop) (V:Tryz.prog.underlying t=some (.slice e)) (Y:Tryz.prog.cellsOf e=c) (Z:0<c) (h:DataW.trod enc Tryz.prog W 0 (fun _=>true) true n t [v]=some x) (hr:Reached t x.1)
  (each:∀(m:Nat) (cs:List Value) (y:DataW H×List MemPlace),n=m+1->DataW.trod enc Tryz.prog W 0 (fun _=>true) true m e cs=some y->Reached e y.1->∃z,R cs z) :
  ∃(xs:List α) (p:Zo) (cap:Nat),v=.slice p xs.length cap/\cap*Tryz.prog.bytesOf e<=reachBytes/\xs.length<=cap/\∀(j:Nat) (z:α),xs[j]?=some z->∃(g o:Nat) (cs:List Value),p=some ⟨g,o,none⟩/\R cs z/\∀(i:Nat) (u:Value),cs[i]?=some u->W.cell? ⟨g,o+j*c+i,none⟩=some u:=by
 rcases zco V Y h hr with rfl|⟨a,len,cap,m,hm,rfl,hl,aa,hx⟩
 ·exact⟨[],none,0,rfl,by simp,by simp,fun j z h=>by simp at h⟩
 ·have hE:∀i,i<len->∃q:α×List Value,q.2.length=c/\R q.2 q.1/\∀j,j<c->W.cell? (a.add (i*c+j))=q.2[j]?:=fun i s=>by
   obtain⟨cs,y,G,I,J,r⟩:=hx i s;obtain⟨z,hz⟩:=each m cs y hm J r;exact⟨(z,cs),G,hz,I⟩
  have ab:Inhabited (α×List Value):=⟨(default,[])⟩
  obtain⟨q,L⟩:=choose_lt hE;refine⟨(List.range len).map fun i=>(q i).1,some a,cap,by simp,aa,by simpa using hl,fun j z hz=>?_⟩;rw[Xd]at hz;have M:j<len:=by
   rcases YW j len with h|h
   ·exact h
   ·rw[X9 (by simpa using h)]at hz;cases hz
  rw[XH M]at hz;obtain rfl:(q j).1=z:=by simpa using hz
  obtain⟨G,I,J⟩:=L j M;obtain⟨b,o,sp⟩:=a;obtain rfl:sp=none:=by
   obtain⟨q1,_,q3⟩:=L 0 (by omega);have U:=q3 0 Z;rw[Y6 (by omega)]at U;simpa[Addr.add]using World.cell?_spot U
  refine⟨b,o,(q j).2,rfl,I,fun i u hu=>?_⟩;have s:i<c:=by rw[<-G];exact(YI.1 hu).1
  have r:=J i s;rw[YT,hu,<-YR]at r;exact r
abbrev T5.cells (y:T5):List Value:=[Zi y.K,.string y.S,.slice y.pn y.nn y.cn,.slice y.pe y.ne y.ce,.slice y.pp y.np y.cp]
theorem open_t5 {k n:Nat} {cs:List Value} {x:DataW H×List MemPlace} (g:n<=2*k+3) (h:DataW.trod enc Tryz.prog W 0 (fun _=>true) true n 31 cs=some x) (j:Reached 31 x.1) :
  ∃(t:Ty (k+1)) (y:T5),cs=y.cells/\TyValD W (k+1) y.val t/\WfD (k+1) t:=by
 obtain⟨t,vn,ve,vp,rfl,r,s,c,u⟩:=zio (zj1 k) (DataW.trod_le g h) j;obtain⟨pn,cn,rfl,G⟩:=r;obtain⟨pe,ce,rfl,I⟩:=s;obtain⟨pp,cp,rfl⟩:=c.slice;have hw:TyWf (k+1) [t]:=⟨by simp,by simpa using u⟩
 exact⟨t,⟨t.1,⟨t.2.1.toArray⟩,pn,pe,pp,_,cn,_,ce,_,cp⟩,rfl,⟨pn,pe,pp,cn,ce,cp,rfl,⟨pn,cn,rfl,G⟩,⟨pe,ce,rfl,I⟩,c⟩,(TyWf.each hw).2 t (by simp)⟩
theorem open_pa {k n:Nat} {cs:List Value} {x:DataW H×List MemPlace} (c:n<=2*k+3) (h:DataW.trod enc Tryz.prog W 0 (fun _=>true) true n 94 cs=some x) (L:Reached 94 x.1) :
  ∃z:Pa (k+1),∃y:T5,cs=.string ⟨z.1.toArray⟩::y.cells/\TyValD W (k+1) y.val z.2/\z.1.length<=140737488351232/\WfD (k+1) z.2:=by
 obtain⟨xs,m,hm,rfl,G,M,I⟩:=Xm Tryz.underlying94 h;rw[cells_pa]at G
 match cs,G with
 | [U,V,Y,c3,c4,c5],_=>
  have Z:xs.length=2:=M
  match xs,Z with
  | [g,j],_=>
   have g0:=I 0 _ rfl;have g1:=I 1 _ rfl;simp only[Xa,YN]at g0 g1;have hw:∀n,(n∈g.1.weights Tryz.prog 9∨n∈j.1.weights Tryz.prog 31)->n<=reachBytes:=fun n c=>L n (by
    show n∈DataW.weights Tryz.prog 94 (.agg [g.1,j.1]);rw[DataW.weights,Tryz.underlying94];show n∈DataW.weightsEach Tryz.prog [9,31] [g.1,j.1];simp only[DataW.weightsEach,YZ];rcases c with h|h <;> simp[h])
   obtain⟨s,r,aa,_⟩:=XF Tryz.underlying9 g0;obtain⟨t,y,u,r1,r2⟩:=open_t5 (k:=k) (by omega) g1 (fun n c=>hw n (Or.inr c));have J:=hw s.data.toList.length (Or.inl (by rw[aa,DataW.weights];simp));unfold reachBytes at J;have r:[U]=[Value.string s]:=r;have u:[V,Y,c3,c4,c5]=y.cells:=u;refine⟨(s.data.toList,t),y,?_,r1,J,r2⟩;rw[<-u,(Xk r).1]
theorem open_de {k n:Nat} {cs:List Value} {x:DataW H×List MemPlace} (c:n<=2*k+3) (h:DataW.trod enc Tryz.prog W 0 (fun _=>true) true n 52 cs=some x) (M:Reached 52 x.1) :
  ∃z:De (k+1),∃y:T5,cs=Zi z.1::.string ⟨z.2.1.toArray⟩::y.cells/\TyValD W (k+1) y.val z.2.2/\z.2.1.length<=140737488351232/\WfD (k+1) z.2.2:=by
 obtain⟨xs,m,hm,rfl,I,U,g⟩:=Xm Tryz.underlying52 h;rw[cells_de]at I
 match cs,I with
 | [V,Y,Z,c3,c4,c5,c6],_=>
  have hx:xs.length=3:=U
  match xs,hx with
  | [J,j,r],_=>
   have g0:=g 0 _ rfl;have g1:=g 1 _ rfl;have g2:=g 2 _ rfl;simp only[Xa,YN]at g0 g1 g2;have hw:∀n,(n∈j.1.weights Tryz.prog 9∨n∈r.1.weights Tryz.prog 31)->n<=reachBytes:=fun n c=>M n (by
    show n∈DataW.weights Tryz.prog 52 (.agg [J.1,j.1,r.1]);rw[DataW.weights,Tryz.underlying52];show n∈DataW.weightsEach Tryz.prog [25,9,31] [J.1,j.1,r.1];simp only[DataW.weightsEach,YZ];rcases c with h|h <;> simp[h])
   obtain⟨z0,e0⟩:=zgf (cs:=[V]) g0;obtain⟨s,u,aa,_⟩:=XF Tryz.underlying9 g1;obtain⟨t,y,G,r1,r2⟩:=open_t5 (k:=k) (by omega) g2 (fun n c=>hw n (Or.inr c));have L:=hw s.data.toList.length (Or.inl (by rw[aa,DataW.weights];simp));unfold reachBytes at L;have u:[Y]=[Value.string s]:=u;have G:[Z,c3,c4,c5,c6]=y.cells:=G;refine⟨(z0,s.data.toList,t),y,?_,r1,L,r2⟩;rw[<-G,(Xk u).1,(Xk e0).1]
theorem open_pas {k n:Nat} {v:Value} {x:DataW H×List MemPlace} (U:n<=2*k+3) (h:DataW.trod enc Tryz.prog W 0 (fun _=>true) true n 26 [v]=some x) (u:Reached 26 x.1) :
  ∃r:List (Pa (k+1)),PaRow W (k+1) v r/\r.length<=140737488351232/\∀z∈r,z.1.length<=140737488351232/\WfD (k+1) z.2:=by
 have V:Inhabited (Pa (k+1)):=⟨([],(0,[],[],[],[]))⟩
 obtain⟨r,p,cap,rfl,s,Y,t⟩:=zma (α:=Pa (k+1)) (fun cs z=>∃y:T5,cs=.string ⟨z.1.toArray⟩::y.cells/\TyValD W (k+1) y.val z.2/\z.1.length<=140737488351232/\WfD (k+1) z.2) Tryz.underlying26 cells_pa (by omega) h u fun m cs y hm G I=>open_pa (by omega) G I
 rw[bytes_pa]at s;unfold reachBytes at s;refine⟨r,⟨p,cap,rfl,fun j z hz=>?_⟩,by omega,fun z hz=>?_⟩
 ·obtain⟨g,o,cs,rfl,⟨y,rfl,J,_⟩,c⟩:=t j z hz;exact⟨g,o,y,rfl,c 0 _ rfl,⟨c 1 _ rfl,c 2 _ rfl,c 3 _ rfl,c 4 _ rfl,c 5 _ rfl⟩,J⟩
 ·obtain⟨j,L,rfl⟩:=List.mem_iff_getElem.1 hz;obtain⟨_,_,_,_,⟨_,_,_,M⟩,_⟩:=t j _ (Y6 L);exact M
theorem open_des {k n:Nat} {v:Value} {x:DataW H×List MemPlace} (U:n<=2*k+3) (h:DataW.trod enc Tryz.prog W 0 (fun _=>true) true n 22 [v]=some x) (u:Reached 22 x.1) :
  ∃r:List (De (k+1)),DeRow W (k+1) v r/\r.length<=140737488351232/\∀z∈r,z.2.1.length<=140737488351232/\WfD (k+1) z.2.2:=by
 have V:Inhabited (De (k+1)):=⟨(0,[],(0,[],[],[],[]))⟩
 obtain⟨r,p,cap,rfl,s,Y,t⟩:=zma (α:=De (k+1)) (fun cs z=>∃y:T5,cs=Zi z.1::.string ⟨z.2.1.toArray⟩::y.cells/\TyValD W (k+1) y.val z.2.2/\z.2.1.length<=140737488351232/\WfD (k+1) z.2.2) Tryz.underlying22 cells_de (by omega) h u fun m cs y hm G I=>open_de (by omega) G I
 rw[bytes_de]at s;unfold reachBytes at s;refine⟨r,⟨p,cap,rfl,fun j z hz=>?_⟩,by omega,fun z hz=>?_⟩
 ·obtain⟨g,o,cs,rfl,⟨y,rfl,J,_⟩,c⟩:=t j z hz;exact⟨g,o,y,rfl,c 0 _ rfl,c 1 _ rfl,⟨c 2 _ rfl,c 3 _ rfl,c 4 _ rfl,c 5 _ rfl,c 6 _ rfl⟩,J⟩
 ·obtain⟨j,L,rfl⟩:=List.mem_iff_getElem.1 hz;obtain⟨_,_,_,_,⟨_,_,_,M⟩,_⟩:=t j _ (Y6 L);exact M
abbrev C10.cells (x:C10):List Value:=Zi x.A::.string x.O::.string x.N::.slice x.pq x.nq x.cq::(x.T.cells++[.slice x.pb x.nb x.cb])
theorem open_co {k n:Nat} {cs:List Value} {x:DataW H×List MemPlace} (c:n<=2*k+3) (h:DataW.trod enc Tryz.prog W 0 (fun _=>true) true n 34 cs=some x) (hr:Reached 34 x.1) :
  ∃z:Co (k+1) k k k,∃y:C10,cs=y.cells/\CoIs W (k+1) k k k y z/\CoO (k+1) k k k z:=by
 obtain⟨xs,m,hm,rfl,V,ab,g⟩:=Xm Tryz.underlying34 h;rw[cells_co]at V
 match cs,V with
 | [c0,c1,c2,c3,c4,c5,c6,c7,c8,c9],_=>
  have hx:xs.length=6:=ab
  match xs,hx with
  | [Y,r,u,G,I,J],_=>
   have g0:=g 0 _ rfl;have g1:=g 1 _ rfl;have g2:=g 2 _ rfl;have g3:=g 3 _ rfl;have g4:=g 4 _ rfl;have g5:=g 5 _ rfl;simp only[Xa,YN]at g0 g1 g2 g3 g4 g5;have hw:∀n,(n∈r.1.weights Tryz.prog 9∨n∈u.1.weights Tryz.prog 9∨n∈G.1.weights Tryz.prog 26∨n∈I.1.weights Tryz.prog 31∨n∈J.1.weights Tryz.prog 32)->n<=reachBytes:=fun n c=>hr n (by
    show n∈DataW.weights Tryz.prog 34 (.agg [Y.1,r.1,u.1,G.1,I.1,J.1]);rw[DataW.weights,Tryz.underlying34];show n∈DataW.weightsEach Tryz.prog [25,9,9,26,31,32] [Y.1,r.1,u.1,G.1,I.1,J.1];simp only[DataW.weightsEach,YZ];rcases c with h|h|h|h|h <;> simp[h])
   obtain⟨z0,e0⟩:=zgf (cs:=[c0]) g0;obtain⟨s,L,ac,_⟩:=XF Tryz.underlying9 g1;obtain⟨j,M,ad,_⟩:=XF Tryz.underlying9 g2;obtain⟨ps,p1,p2,p3⟩:=open_pas (k:=k) (v:=c3) (by omega) g3 (fun n c=>hw n (Or.inr (Or.inr (Or.inl c))));obtain⟨t,y,U,r1,r2⟩:=open_t5 (k:=k) (by omega) g4 (fun n c=>hw n (Or.inr (Or.inr (Or.inr (Or.inl c)))));obtain⟨ss,Z,q2⟩:=opens_st (D:=k) k (Y5 _) c9 _ (DataW.trod_le (show m<=2*k+2 by omega) g5) (fun n c=>hw n (Or.inr (Or.inr (Or.inr (Or.inr c)))));have hs:=hw s.data.toList.length (Or.inl (by rw[ac,DataW.weights];simp));have aa:=hw j.data.toList.length (Or.inr (Or.inl (by rw[ad,DataW.weights];simp)));unfold reachBytes at hs aa;have L:[c1]=[Value.string s]:=L;have M:[c2]=[Value.string j]:=M;have U:[c4,c5,c6,c7,c8]=y.cells:=U;obtain⟨pq,cq,rfl,ae⟩:=p1;obtain⟨pb,cb,rfl⟩:=Z.slice;refine⟨(z0,s.data.toList,j.data.toList,ps,t,ss),⟨z0,s,j,pq,_,cq,y,pb,_,cb⟩,?_,⟨rfl,rfl,rfl,⟨pq,cq,rfl,ae⟩,r1,Z⟩,⟨hs,aa,p2⟩,p3,r2,q2⟩;rw[C10.cells,<-U,(Xk L).1,(Xk M).1,(Xk e0).1]
   rfl
theorem open_cos {k n:Nat} {v:Value} {x:DataW H×List MemPlace} (U:n<=2*k+3) (h:DataW.trod enc Tryz.prog W 0 (fun _=>true) true n 23 [v]=some x) (t:Reached 23 x.1) :
  ∃cs:List (Co (k+1) k k k),CoRow W (k+1) k k k v cs/\cs.length<=140737488351232/\∀z∈cs,CoO (k+1) k k k z:=by
 have V:Inhabited (Co (k+1) k k k):=⟨(0,[],[],[],(0,[],[],[],[]),[])⟩
 obtain⟨u,p,cap,rfl,r,Y,s⟩:=zma (α:=Co (k+1) k k k) (fun cs z=>∃y:C10,cs=y.cells/\CoIs W (k+1) k k k y z/\CoO (k+1) k k k z) Tryz.underlying23 cells_co (by omega) h t fun m cs y hm G I=>open_co (by omega) G I
 rw[bytes_co]at r;unfold reachBytes at r;refine⟨u,⟨p,cap,rfl,fun j z hz=>?_⟩,by omega,fun z hz=>?_⟩
 ·obtain⟨g,o,cs,rfl,⟨y,rfl,J,_⟩,c⟩:=s j z hz;exact⟨g,o,y,rfl,⟨c 0 _ rfl,c 1 _ rfl,c 2 _ rfl,c 3 _ rfl,⟨c 4 _ rfl,c 5 _ rfl,c 6 _ rfl,c 7 _ rfl,c 8 _ rfl⟩,c 9 _ rfl⟩,J⟩
 ·obtain⟨j,L,rfl⟩:=List.mem_iff_getElem.1 hz;obtain⟨_,_,_,_,⟨_,_,_,M⟩,_⟩:=s j _ (Y6 L);exact M
theorem open_prog {cs:Array Value} {r:DataW H} {L:List MemPlace} (h:DataW.Trod enc Tryz.prog W 0 (fun _=>true) true 36 (.agg cs) r L) (M:Reached 36 r) :
  ∃(k:Nat) (x:P13) (p:Pr (k+1) k k k),Value.agg cs=x.val/\PrIs W (k+1) k k k x p/\PrO (k+1) k k k p:=by
 obtain⟨k,U⟩:=h;refine⟨k,?_⟩;have V:DataW.trod enc Tryz.prog W 0 (fun _=>true) true k 36 cs.toList=some (r,L):=U;obtain⟨xs,m,hm,Y,t,Z,j⟩:=Xm Tryz.underlying36 V;obtain⟨rfl,_⟩:r=.agg (xs.map (·.1))/\True:=⟨congrArg Prod.fst Y,trivial⟩
 rw[cells_pr]at t;obtain⟨l,rfl⟩:∃l:List Value,cs=l.toArray:=⟨cs.toList,by simp⟩
 simp only at t j
 match l,t with
 | [c0,c1,c2,c3,c4,c5,c6,c7,c8,c9,aa,ab,ac],_=>
  have hx:xs.length=4:=Z
  match xs,hx with
  | [u,G,I,J],_=>
   have g0:=j 0 _ rfl;have g1:=j 1 _ rfl;have g2:=j 2 _ rfl;have g3:=j 3 _ rfl;simp only[Xa,YN]at g0 g1 g2 g3;have hw:∀n,(n∈u.1.weights Tryz.prog 22∨n∈G.1.weights Tryz.prog 23∨n∈I.1.weights Tryz.prog 23∨n∈J.1.weights Tryz.prog 34)->n<=reachBytes:=fun n g=>M n (by
    show n∈DataW.weights Tryz.prog 36 (.agg [u.1,G.1,I.1,J.1]);rw[DataW.weights,Tryz.underlying36];show n∈DataW.weightsEach Tryz.prog [22,23,23,34] [u.1,G.1,I.1,J.1];simp only[DataW.weightsEach,YZ];rcases g with h|h|h|h <;> simp[h])
   obtain⟨ds,d1,d2,d3⟩:=open_des (k:=k) (v:=c0) (by omega) g0 (fun n g=>hw n (Or.inl g));obtain⟨ms,m1,m2,m3⟩:=open_cos (k:=k) (v:=c1) (by omega) g1 (fun n g=>hw n (Or.inr (Or.inl g)));obtain⟨fs,f1,f2,f3⟩:=open_cos (k:=k) (v:=c2) (by omega) g2 (fun n g=>hw n (Or.inr (Or.inr (Or.inl g))));obtain⟨c,y,s,r1,r2⟩:=open_co (k:=k) (by omega) g3 (fun n g=>hw n (Or.inr (Or.inr (Or.inr g))));have s:[c3,c4,c5,c6,c7,c8,c9,aa,ab,ac]=y.cells:=s;obtain⟨pd,cd,rfl,hd⟩:=d1;obtain⟨pm,cm,rfl,hm⟩:=m1;obtain⟨pf,cf,rfl,ad⟩:=f1;refine⟨⟨pd,_,cd,pm,_,cm,pf,_,cf,y⟩,(ds,ms,fs,c),?_,⟨⟨pd,cd,rfl,hd⟩,⟨pm,cm,rfl,hm⟩,⟨pf,cf,rfl,ad⟩,r1⟩,⟨d2,m2,f2⟩,d3,m3,f3,r2⟩;simp only[C10.cells,T5.cells,YD,Xc]at s;obtain⟨rfl,rfl,rfl,rfl,rfl,rfl,rfl,rfl,rfl,rfl⟩:=s
   rfl
end
end Go.Proofs.YtdcbglnhhbmpgaaGreatDoor
