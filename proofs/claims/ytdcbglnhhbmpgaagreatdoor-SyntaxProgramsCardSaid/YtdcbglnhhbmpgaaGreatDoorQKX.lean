import Derived.Test.YtdcbglnhhbmpgaaGreatDoorQEqG
import Derived.Test.YtdcbglnhhbmpgaaGreatDoorQTokensPure
set_option maxHeartbeats 1000000
set_option maxRecDepth 100000
namespace Go.Proofs.YtdcbglnhhbmpgaaGreatDoor
open Go Go.RowKit Lx
def KExprAt (D d:Nat):Prop:=∀(x:Ex D d) (v u:Value) (w:Zw),ExValD w D d v x->ExValD w D d u x->WfX D d x ->
 ZC 148 #[v,u,.bool true] w (.bool true)
def KExprsAt (D d:Nat):Prop:=∀(xs:List (Ex D d)) (p q:Zo) (c e:Nat) (w:Zw),ExRow w D d (.slice p xs.length c) xs->ExRow w D d (.slice q xs.length e) xs->xs.length<=140737488351232->(∀x∈xs,WfX D d x) ->
 ZC 112 #[.slice p xs.length c,.slice q xs.length e,.bool true] w (.bool true)
theorem kexprs_of (D d:Nat) (Y:KExprAt D d):KExprsAt D d:=fun a p q c c' w Z hu hl wa=>by
 have HA:ZH (∀k (r:k<a.length),∃u,ExCell w p k u/\ExValD w D d u a[k]/\WfX D d a[k]):=fun k r=>by
  obtain⟨u,h1,h2⟩:=Z.at k r;exact⟨u,h1,h2,wa _ (by simp)⟩
 have HB:ZH (∀k (r:k<a.length),∃u,ExCell w q k u/\ExValD w D d u a[k]):=fun k r=>hu.at k r
 have HI:=J3 Y;clear Z hu wa Y;go_enter Tryz.func112,Tryz.ntmps112;go_wp2
 go_loopw [7] (fun i wr=>∃k:Nat,i=Zi k/\k<=a.length/\ZB w wr) (fun i _=>a.length-(intOf i).toNat)
 case atStart=>exact⟨0,rfl,by omega,Zr⟩
 case round=>
  obtain⟨k,rfl,r,h⟩:=hrel;by_cases aa:k<a.length
  ·obtain⟨x,⟨g,o,A',K',N',S',qt,qn,q3,nt,c1,nn,c2,n3,c3,rfl,rfl,a0,s,a2,a3,a4,a5,t⟩,hx,wx⟩:=HA k aa;obtain⟨y,⟨j,o',A2,K2,N2,S2,rt,rn,r3,ad,ae,af,ag,ah,ai,rfl,rfl,G,I,J,L,M,U,V⟩,hy⟩:=HB k aa;have aj:(k:Int)<(a.length:Int):=by omega
   have b0:=(h.cell (p:=⟨g,_,none⟩) (J2 a0)).trans a0;have b1:=(h.cell (p:=⟨g,_,none⟩) (J2 s)).trans s;have b2:=(h.cell (p:=⟨g,_,none⟩) (J2 a2)).trans a2;have b3:=(h.cell (p:=⟨g,_,none⟩) (J2 a3)).trans a3;have b4:=(h.cell (p:=⟨g,_,none⟩) (J2 a4)).trans a4;have b5:=(h.cell (p:=⟨g,_,none⟩) (J2 a5)).trans a5;have b6:=(h.cell (p:=⟨g,_,none⟩) (J2 t)).trans t;have f0:=(h.cell (p:=⟨j,_,none⟩) (J2 G)).trans G;have f1:=(h.cell (p:=⟨j,_,none⟩) (J2 I)).trans I;have f2:=(h.cell (p:=⟨j,_,none⟩) (J2 J)).trans J;have f3:=(h.cell (p:=⟨j,_,none⟩) (J2 L)).trans L;have f4:=(h.cell (p:=⟨j,_,none⟩) (J2 M)).trans M;have f5:=(h.cell (p:=⟨j,_,none⟩) (J2 U)).trans U;have f6:=(h.cell (p:=⟨j,_,none⟩) (J2 V)).trans V;have CT:=J3 (J0 HI a[k] _ _ wr.drew (ExValD.below (Jb h) hx) (ExValD.below (Jb h) hy) wx);have ab:=J3 h;clear a0 s a2 a3 a4 a5 t G I J L M U V hx hy wx h HI HA HB;go_wp2
   go_region_with (go_at_call 148;refine CT.mono ?_;clear CT;rintro x w1 ⟨rfl,ac⟩)
   all_goals
    go_wp2;go_roundw
    case rel=>exact⟨k+1,by go_num,by omega,ab.trans (JO (ac.mono ab.size))⟩
    case measure=>simp[intOf];omega
  ·go_wp2;go_ret;exact⟨rfl,h⟩
theorem zkx {A K N u x G:Int} {S S':Zy} {pt pn pp I c g:Zo} {nt nn np ct cn cp J h j L r s:Nat} {w wr:Zw} (M:Below ((w.alloc (zad A K N S pt pn pp nt nn np ct cn cp)).alloc (zad u x G S' I c g J h j L r s)).heap.size ((w.alloc (zad A K N S pt pn pp nt nn np ct cn cp)).alloc (zad u x G S' I c g J h j L r s)) wr) :
  (wr.cell? ⟨w.heap.size,5,none⟩=some (.slice pn nn cn)/\wr.cell? ⟨w.heap.size,6,none⟩=some (.slice pp np cp))/\(wr.cell? ⟨w.heap.size+1,5,none⟩=some (.slice c h r)/\wr.cell? ⟨w.heap.size+1,6,none⟩=some (.slice g j s)):=by
 have U:=Jx (w:=w) (wr:=wr) (A:=A) (K:=K) (N:=N) (S:=S) (pt:=pt) (pn:=pn) (pp:=pp) (nt:=nt) (nn:=nn) (np:=np) (ct:=ct) (cn:=cn) (cp:=cp) ((Za _ _).trans (M.mono (by simp)));have t:=Jx (w:=w.alloc (zad A K N S pt pn pp nt nn np ct cn cp)) M;rw[World.size_alloc]at t;exact⟨⟨U.2.2.2.2.2.1,U.2.2.2.2.2.2⟩,⟨t.2.2.2.2.2.1,t.2.2.2.2.2.2⟩⟩
theorem kexpr_of (D d:Nat) (U:KExprsAt D d):KExprAt D (d+1):=fun x v u w hv hu r=>by
 obtain⟨pt,pn,pp,ct,cn,cp,rfl,V,Y,Z⟩:=hv;obtain⟨aa,ab,s,ac,ad,t,rfl,s1,s2,s3⟩:=hu;obtain⟨w1,w2,w3,⟨w4,G⟩,w6,w7⟩:=r;obtain⟨A,K,N,S,h,ns,xs⟩:=x;dsimp only[xAt,zfi,xN,xS,xT,xNs,xPs]at *;have j:ZB w ((w.alloc (zad A K N ⟨S.toArray⟩ pt pn pp h.length ns.length xs.length ct cn cp)).alloc (zad A K N ⟨S.toArray⟩ aa ab s h.length ns.length xs.length ac ad t)):=(Za _ _).alloc (by simp) _;have I:=J3 (zkw D (zf5 D) h h pt aa ct ac _ true (by simp) (TyRow.below j D V) (TyRow.below j D s1) w4 G G);have ae:ZH (∀W,ZB w W->ZC 109 #[.slice pn ns.length cn,.slice ab ns.length ad] W (.bool true)):=fun W c=>by
  have:=Texts_any _ _ ns ns W w2 (Y.below c) (s2.below c);rwa[Xi rfl]at this
 have af:ZH (∀W,ZB w W->ZC 112 #[.slice pp xs.length cp,.slice s xs.length t,.bool true] W (.bool true)):=fun W c=>U xs pp s cp t W (ExRow.below c d Z) (ExRow.below c d s3) w6 w7
 have g:=J3 j;clear V Y Z s1 s2 s3 w1 w2 w3 w4 G w6 w7 U j;obtain⟨X,J⟩:=Ze (⟨S.toArray⟩:Zy)
 rw[<-J]at g I;rw[<-J];clear J;go_enter Tryz.func148,Tryz.ntmps148;go_wp2_with (first
  | (go_at_call 111;refine I.mono ?_;clear I;rintro x r ⟨rfl,L⟩;obtain⟨⟨d1,d2⟩,⟨d3,d4⟩⟩:=zkx L;have TX:=J3 (J0 ae r (Zn g L)))
  | (go_at_call 109;refine TX.mono ?_;clear TX;rintro x wb ⟨rfl,ag⟩;have M:=Zn L ag;obtain⟨⟨f1,f2⟩,⟨f3,f4⟩⟩:=zkx M;have EX:=J3 (J0 af wb (Zn g M)))
  | (go_at_call 112;refine EX.mono ?_;clear EX;rintro x wc ⟨rfl,ah⟩))
 go_ret;exact⟨rfl,g.trans ((Zn M ah).mono g.size)⟩
theorem kexpr_any (D:Nat):∀d,KExprAt D d
 | 0=>fun t=>nomatch t
 | d+1=>kexpr_of D d (kexprs_of D d (kexpr_any D d))
theorem zjc {A K J L:Int} {S S':Zy} {pt px pb pe M c g h:Zo} {t x b e ct cx cb ce U j r s V u G I:Nat} {w wr:Zw} (Y:Below ((w.alloc (sBox A K S pt px pb pe t x b e ct cx cb ce)).alloc (sBox J L S' M c g h U j r s V u G I)).heap.size ((w.alloc (sBox A K S pt px pb pe t x b e ct cx cb ce)).alloc (sBox J L S' M c g h U j r s V u G I)) wr) :
  (wr.cell? ⟨w.heap.size,4,none⟩=some (.slice px x cx)/\wr.cell? ⟨w.heap.size,5,none⟩=some (.slice pb b cb)/\wr.cell? ⟨w.heap.size,6,none⟩=some (.slice pe e ce))/\(wr.cell? ⟨w.heap.size+1,4,none⟩=some (.slice c j u)/\wr.cell? ⟨w.heap.size+1,5,none⟩=some (.slice g r G)/\wr.cell? ⟨w.heap.size+1,6,none⟩=some (.slice h s I)):=by
 have h1:=JA (w:=w) (wr:=wr) (A:=A) (K:=K) (S:=S) (pt:=pt) (px:=px) (pb:=pb) (pe:=pe) (t:=t) (x:=x) (b:=b) (e:=e) (ct:=ct) (cx:=cx) (cb:=cb) (ce:=ce) ((Za _ _).trans (Y.mono (by simp)));have Z:=JA (w:=w.alloc (sBox A K S pt px pb pe t x b e ct cx cb ce)) Y;rw[World.size_alloc]at Z;exact⟨h1.2.2.2.2,Z.2.2.2.2⟩
def KSt (w:Zw) (p q:Zo) (k:Nat):Prop:=
 ∃(g o c h:Nat) (A K:Int) (S:Zy) (pt px pb pe j r s u:Zo) (t x b e ct cx cb ce G I J L:Nat),p=some ⟨g,o,none⟩/\q=some ⟨c,h,none⟩ /\
  (ZK7 w g (o+k*7) (Zi A) (Zi K) (.string S) (.slice pt t ct) (.slice px x cx) (.slice pb b cb) (.slice pe e ce)) /\
  (ZK7 w c (h+k*7) (Zi A) (Zi K) (.string S) (.slice j t G) (.slice r x I) (.slice s b J) (.slice u e L)) /\
  (∀W,ZB w W->ZC 111 #[.slice pt t ct,.slice j t G] W (.bool true)) /\
  (∀W,ZB w W->ZC 112 #[.slice px x cx,.slice r x I,.bool true] W (.bool true)) /\
  (∀W,ZB w W->ZC 70 #[.slice pb b cb,.slice s b J,.bool true] W (.bool true)) /\
  (∀W,ZB w W->ZC 70 #[.slice pe e ce,.slice u e L,.bool true] W (.bool true))
theorem kst_run (p q:Zo) (n c c':Nat) (w:Zw) (hn:n<=140737488351232) (hP:∀k,k<n->KSt w p q k) :
  ZC 70 #[.slice p n c,.slice q n c',.bool true] w (.bool true):=by
 have HP:=J3 hP;clear hP;go_enter Tryz.func70,Tryz.ntmps70;go_wp2
 go_loopw [7] (fun i wr=>∃k:Nat,i=Zi k/\k<=n/\ZH (ZB w wr)) (fun i _=>n-(intOf i).toNat)
 case atStart=>exact⟨0,rfl,by omega,Zr⟩
 case round=>
  obtain⟨k,rfl,hk,V⟩:=hrel;by_cases af:k<n
  ·obtain⟨g,o,r,o',A,K,S,pt,px,pb,pe,ag,ah,ai,aj,t,x,b,e,ct,cx,cb,ce,ak,al,am,an,rfl,rfl,⟨a0,Y,a2,a3,a4,a5,Z⟩,⟨b0,b1,b2,b3,b4,b5,b6⟩,cT,cX,cB,cE⟩:=HP k af;have aq:(k:Int)<(n:Int):=by omega
   have j:=J0 V;have e0:=(j.cell (p:=⟨g,_,none⟩) (J2 a0)).trans a0;have e1:=(j.cell (p:=⟨g,_,none⟩) (J2 Y)).trans Y;have e2:=(j.cell (p:=⟨g,_,none⟩) (J2 a2)).trans a2;have e3:=(j.cell (p:=⟨g,_,none⟩) (J2 a3)).trans a3;have e4:=(j.cell (p:=⟨g,_,none⟩) (J2 a4)).trans a4;have e5:=(j.cell (p:=⟨g,_,none⟩) (J2 a5)).trans a5;have e6:=(j.cell (p:=⟨g,_,none⟩) (J2 Z)).trans Z;have h:ZB w (wr.alloc (sBox A K S pt px pb pe t x b e ct cx cb ce)):=j.alloc j.size _;have f0:=(h.cell (p:=⟨r,_,none⟩) (J2 b0)).trans b0;have f1:=(h.cell (p:=⟨r,_,none⟩) (J2 b1)).trans b1;have f2:=(h.cell (p:=⟨r,_,none⟩) (J2 b2)).trans b2;have f3:=(h.cell (p:=⟨r,_,none⟩) (J2 b3)).trans b3;have f4:=(h.cell (p:=⟨r,_,none⟩) (J2 b4)).trans b4;have f5:=(h.cell (p:=⟨r,_,none⟩) (J2 b5)).trans b5;have f6:=(h.cell (p:=⟨r,_,none⟩) (J2 b6)).trans b6;have s:ZH (ZB w ((wr.alloc (sBox A K S pt px pb pe t x b e ct cx cb ce)).alloc (sBox A K S ag ah ai aj t x b e ak al am an))):=h.alloc h.size _;have CT:=J3 (cT _ s);have HX:=J3 cX;have ac:=J3 cB;have ad:=J3 cE;clear a0 Y a2 a3 a4 a5 Z b0 b1 b2 b3 b4 b5 b6 cT cX cB cE j h HP V;go_wp2_with (first
    | (go_at_call 111;refine CT.mono ?_;clear CT;rintro y wa ⟨rfl,u⟩;obtain⟨⟨G,I,J⟩,⟨L,M,U⟩⟩:=zjc u;have ao:=J3 u;have CX:=J3 (J0 HX wa (zax s u));clear HX u)
    | (go_at_call 112;refine CX.mono ?_;clear CX G I J L M U;rintro y wb ⟨rfl,h⟩;have aa:=J3 (zax ao h);clear h;obtain⟨⟨G,I,J⟩,⟨L,M,U⟩⟩:=zjc aa;have CB:=J3 (J0 ac wb (zax s aa));clear ac)
    | (go_at_call 70;refine CB.mono ?_;clear CB G I J L M U;rintro y wc ⟨rfl,ae⟩;have ab:=J3 (zax aa ae);clear ae;obtain⟨⟨G,I,J⟩,⟨L,M,U⟩⟩:=zjc ab;have CE:=J3 (J0 ad wc (zax s ab));clear ad)
    | (go_at_call 70;refine CE.mono ?_;clear CE;rintro y wd ⟨rfl,ap⟩))
   go_roundw
   case rel=>exact⟨k+1,by go_num,by omega,zax (zax s ab) ap⟩
   case measure=>simp[intOf];omega
  ·go_wp2;go_ret;exact⟨rfl,V⟩
def KStmtsAt (D d m:Nat):Prop:=∀(g:List (St D d m)) (p q:Zo) (c h:Nat) (w:Zw),StRow w D d m (.slice p g.length c) g->StRow w D d m (.slice q g.length h) g->StWf D d m g ->
 ZC 70 #[.slice p g.length c,.slice q g.length h,.bool true] w (.bool true)
theorem kstmts_any (D d:Nat):∀m,KStmtsAt D d m
 | 0=>fun j p q c r w _ _ _=>by
  match j with
  | []=>exact kst_run p q 0 c r w (by omega) fun k u=>absurd u (by omega)
  | s::_=>exact nomatch s
 | m+1=>fun j p q c r w hv hu hw=>by
  have x:=kstmts_any D d m;refine kst_run p q j.length c r w hw.1 fun k u=>?_
  obtain⟨p1,c1,e,hp⟩:=hv;injection e with t _ _
  subst t;obtain⟨q1,c2,e,hq⟩:=hu;injection e with t _ _
  subst t;obtain⟨g,o,vt,vx,vb,ve,rfl,a0,a1,a2,a3,a4,a5,a6,G,I,J,L⟩:=hp k j[k] (by simp);obtain⟨g',o',af,ag,ah,ai,rfl,b0,b1,b2,b3,b4,b5,b6,s1,s2,M,U⟩:=hq k j[k] (by simp);obtain⟨pt,ct,rfl⟩:=G.slice;obtain⟨px,cx,rfl⟩:=I.1.slice;obtain⟨pb,cb,rfl⟩:=J.slice;obtain⟨pe,ce,rfl⟩:=L.slice;obtain⟨V,Y,rfl⟩:=s1.slice;obtain⟨Z,aa,rfl⟩:=s2.1.slice;obtain⟨ab,ac,rfl⟩:=M.slice;obtain⟨ad,ae,rfl⟩:=U.slice;obtain⟨w1,w2,w3,w4,w5⟩:=hw.2 j[k] (by simp);obtain⟨t1,t2⟩:=TyWf.each w2;obtain⟨x1,x2⟩:=ExWf.each w3;exact⟨g,o,g',o',_,_,_,pt,px,pb,pe,V,Z,ab,ad,_,_,_,_,ct,cx,cb,ce,Y,aa,ac,ae,rfl,rfl,⟨a0,a1,a2,a3,a4,a5,a6⟩,⟨b0,b1,b2,b3,b4,b5,b6⟩,
   fun W h=>zkw D (zf5 D) _ _ pt V ct Y W true (by simp) (TyRow.below h D G) (TyRow.below h D s1) t1 t2 t2,
   fun W h=>kexprs_of D d (kexpr_any D d) _ px Z cx aa W (ExRow.below h d I.1) (ExRow.below h d s2.1) x1 x2,
   fun W h=>x _ pb ab cb ac W (StRow.below h m J) (StRow.below h m M) w4,
   fun W h=>x _ pe ad ce ae W (StRow.below h m L) (StRow.below h m U) w5⟩
end Go.Proofs.YtdcbglnhhbmpgaaGreatDoor
