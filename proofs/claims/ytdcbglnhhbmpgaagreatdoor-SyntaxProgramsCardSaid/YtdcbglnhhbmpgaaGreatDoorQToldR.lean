import Derived.Test.YtdcbglnhhbmpgaaGreatDoorQToldQ
set_option maxHeartbeats 1000000
set_option maxRecDepth 100000
namespace Go.Proofs.YtdcbglnhhbmpgaaGreatDoor
open Go Go.RowKit Lx
def zic (g e c:Nat):Zo:=if c=0 then some ⟨g,e,none⟩else some ⟨g,e+7,none⟩
theorem op_rest {o:Oper} {a:Act} {w:Zw} {K:Act->Zw->Prop} {Q:Exit->Act->Zw->Prop} {x:Operand} {g e m c:Nat} (u:m<=c) (r:o.op=.slice 60 x (some (.const (Zi 1))) none none) (s:a.eval x=.slice (Zs g e) (m+1) (c+1)) (h:K (a.put o.dst (.slice (zic g e c) m c)) w):o.wp Tryz.prog a w K Q:=by
 have t:a.eval (.const (Zi 1))=Zi 1:=rfl;have G:(1:Int)<=(m:Int)+1:=by omega
 have I:(m:Int)+1<=(c:Int)+1:=by omega
 unfold Oper.wp;simp only[execOp,r,s,t,Option.map];go_simp;rw[zic]at h;by_cases j:c=0
 ·rw[Ye j]at h ⊢;exact h
 ·rw[Y7 j]at h ⊢;exact h
theorem rest_args {w:Zw} {g e m c:Nat} {L:Nat->List Bs} (t:m<=c) (h:m<=100000) (j:(zk1 L m).length<=400000)
  (r:∀k,k<m->∃u,ExCell w (Zs g (e+7)) k u/\0<(L k).length/\∀W,ZB w W->Leaves 116 #[u] W (L k)) :
  Leaves 150 #[.slice (zic g e c) m c] w (zk1 L m++[[41]]):=by
 refine rargs_any _ m c L w h j fun k s=>?_
 rw[zic,Y7 (by omega)];exact r k s
def v32 (b g o:Nat) (vp vx:Value) (s:Zy) (c:Value):List (Option Value):=[some (.pointer (Zs b 6)),some (vp),some (.pointer (Zs g (o+0*7))),some (vx),none,some (.pointer (Zs b 3)),some (.string s),none,none,some (.pointer (Zs b 6)),some (vp),some (c),none,none,none]
theorem tolds_10 (A N:Int) (S:Bs) (pt pn:Zo) (nt nn ct cn c m:Nat) (w:Zw) (g o:Nat) (L0:List Bs) (A' K' N':Int) (S':Zy) (qn qe q3:Zo) (n1 c1 n2 c2 n3 c3:Nat) (hp:0<L0.length) (hl:L0.length<=300000) (LT:List Bs) (am:0<LT.length) (ar:LT.length<=300000) (hm:m<=c)
  (a0:w.cell? ⟨g,o,none⟩=some (Zi A')) (a1:w.cell? ⟨g,o+1,none⟩=some (Zi K')) (a2:w.cell? ⟨g,o+2,none⟩=some (Zi N')) (a3:w.cell? ⟨g,o+3,none⟩=some (.string S')) (a4:w.cell? ⟨g,o+4,none⟩=some (.slice qn n1 c1)) (a5:w.cell? ⟨g,o+5,none⟩=some (.slice qe n2 c2)) (a6:w.cell? ⟨g,o+6,none⟩=some (.slice q3 n3 c3))
  (CT:∀W,ZB w W->Leaves 150 #[.slice (zic g o c) m c] W LT)
  (CL:∀W,ZB w W->Leaves 149 #[.agg #[Zi A',Zi K',Zi N',.string S',.slice qn n1 c1,.slice qe n2 c2,.slice q3 n3 c3],Zi 7] W L0) :
  zcu A 10 N ⟨S.toArray⟩ pt pn (Zs g o) nt nn (m+1) ct cn (c+1) w (L0++[[46],S]++LT):=by
 have U:=J2 a0;obtain⟨L,ad⟩:=Ze ((L0++[[46],S]++LT))
 rw[<-ad];have an:=J3 ad;clear ad;obtain⟨w1,ae⟩:=Ze (w.alloc (zad A 10 N ⟨S.toArray⟩ pt pn (Zs g o) nt nn (m+1) ct cn (c+1)))
 have ai:=J3 ae;have af:ZB w w1:=by rw[ae];exact al1 _ _
 have aj:∀W,ZB w1 W->_:=fun W (h:ZB w1 W)=>Jx (w:=w) (A:=A) (K:=10) (N:=N) (S:=⟨S.toArray⟩) (pt:=pt) (pn:=pn) (pp:=some ⟨g,o,none⟩) (nt:=nt) (nn:=nn) (np:=(m+1)) (ct:=ct) (cn:=cn) (cp:=(c+1)) (wr:=W) (by rw[<-J0 ai];exact h)
 obtain⟨B,ab,ak,sB,ag,ac⟩:=Zx w1
 have J:∀W,B W->ZB w W:=fun W h=>bon af (ab W h)
 have cB:∀W,B W->_:=fun W h=>aj W (ab W h)
 have cX:∀W,B W->ZK7 W g o (Zi A') (Zi K') (Zi N') (.string S') (.slice qn n1 c1) (.slice qe n2 c2) (.slice q3 n3 c3):=fun W h=>⟨((J W h).cell (p:=⟨g,_,none⟩) U).trans a0,((J W h).cell (p:=⟨g,_,none⟩) U).trans a1,((J W h).cell (p:=⟨g,_,none⟩) U).trans a2,((J W h).cell (p:=⟨g,_,none⟩) U).trans a3,((J W h).cell (p:=⟨g,_,none⟩) U).trans a4,((J W h).cell (p:=⟨g,_,none⟩) U).trans a5,((J W h).cell (p:=⟨g,_,none⟩) U).trans a6⟩
 have cA:∀W,B W->Leaves 149 #[.agg #[Zi A',Zi K',Zi N',.string S',.slice qn n1 c1,.slice qe n2 c2,.slice q3 n3 c3],Zi 7] W L0:=fun W h=>CL W (J W h)
 have cY:∀W,B W->Leaves 150 #[.slice (zic g o c) m c] W LT:=fun W h=>CT W (J W h)
 clear CL a0 a1 a2 a3 a4 a5 a6 aj ae CT;go_enter Tryz.func116,Tryz.ntmps116;go_wp2_with fail;rw[<-J0 ai];refine JL (n:=199) Zk Zk Zk rfl B (VP (v32 w.heap.size g o (.slice (Zs g o) (m+1) (c+1)) (.agg #[Zi A',Zi K',Zi N',.string S',.slice qn n1 c1,.slice qe n2 c2,.slice q3 n3 c3]) ⟨S.toArray⟩ (.slice (zic g o c) m c))) (XCh w1.heap.size 4 14 none L0 [(8,7,[[46],S]),(13,12,LT)])
  (ak _ (Jb Zr)) (Qd (fun v hv=>by cases hv)) ?each ?fin
 case each=>
  refine⟨?_,?_,?_,?_,?_,?_,?_,?_,?_,?_,?_,?_,?_,?_,?_,trivial⟩
  ·exact Yp sB fun G W t r dep=>zae (by decide) rfl (show G.eval (.tmp 1)=Value.pointer (Zs w.heap.size 0)from t 1 Zk) ⟨_,rfl,Zr,rfl⟩
  ·exact Yp sB fun G W t r dep=>zd8 rfl (dep 0 103 _ Zk Zk rfl) (cB W r).2.2.2.2.2.2 ⟨_,rfl,Zr,rfl⟩
  ·exact Yp sB fun G W t r dep=>zcv (k:=0) rfl (dep 1 104 _ Zk Zk rfl) rfl (by omega) ⟨_,rfl,Zr,rfl⟩
  ·exact Yp sB fun G W t r dep=>zdw rfl (dep 2 105 _ Zk Zk rfl) (cX W r) ⟨_,rfl,Zr,rfl⟩
  ·refine Qh sB ac (by decide) (by simp) rfl (fun f down V=>?_) (fun G W hz t r dep=>⟨J1 rfl,zdt rfl (dep 3 106 _ Zk Zk rfl) rfl zfa ((cA W r).mono fun e w' ⟨⟨u,he,h1⟩,hb⟩=>⟨u,he,u,rfl,hb,h1⟩)⟩);have Z:=J6 down (i:=8) (j:=4) Zk V;have Y:=J6 down (i:=13) (j:=8) Zk Z;have aa:=J6 down (i:=14) (j:=13) Zk Y;exact⟨aa,by simp[Z,Y]⟩
  ·exact Yp sB fun G W t r dep=>zae (by decide) rfl (show G.eval (.tmp 1)=Value.pointer (Zs w.heap.size 0)from t 1 Zk) ⟨_,rfl,Zr,rfl⟩
  ·exact Yp sB fun G W t r dep=>zaz rfl (dep 5 108 _ Zk Zk rfl) (cB W r).2.2.2.1 ⟨_,rfl,Zr,rfl⟩
  ·exact Qf (M:=[[46],S]) sB (by decide) (by decide) (by simp) rfl (fun G W hz t r dep=>⟨J1 rfl,zgp (s:=⟨#[46]⟩) rfl rfl (dep 6 109 _ Zk Zk rfl) ⟨_,rfl,al1 _ _,src2 W [46] S⟩⟩)
  ·refine Qi (q:=4) (s:=7) (Lq:=L0) (M:=[[46],S]) ag ac (by decide) rfl rfl rfl rfl (by simp) (by simp) (by simp;omega) (by simp) Zk Zk Zk Zk (fun f v down V I=>?_);have Y:=J6 down (i:=13) (j:=8) Zk V;have aa:=J6 down (i:=14) (j:=13) Zk Y;exact⟨aa,by simp[Js,Jw,I,V],by simp[Jk,V],fun x=>⟨by simp[Js,Jw,JT,I,Y],by simp[Jk,JT,Y]⟩⟩
  ·exact Yp sB fun G W t r dep=>zae (by decide) rfl (show G.eval (.tmp 1)=Value.pointer (Zs w.heap.size 0)from t 1 Zk) ⟨_,rfl,Zr,rfl⟩
  ·exact Yp sB fun G W t r dep=>zd8 rfl (dep 9 112 _ Zk Zk rfl) (cB W r).2.2.2.2.2.2 ⟨_,rfl,Zr,rfl⟩
  ·exact Yp sB fun G W t r dep=>op_rest hm rfl (dep 10 113 _ Zk Zk rfl) ⟨_,rfl,Zr,rfl⟩
  ·exact Qf (M:=LT) sB (by decide) (by decide) (by simp) rfl (fun G W hz t r dep=>⟨J1 rfl,zai rfl (dep 11 114 _ Zk Zk rfl) args_enter ((cY W r).mono fun e w' ⟨⟨u,he,h1⟩,hb⟩=>⟨u,he,u,rfl,hb,Qb h1,fun g U=>h1.lt g U⟩)⟩)
  ·refine Qi (q:=8) (s:=12) (Lq:=(L0++[[46],S])) (M:=LT) ag ac (by decide) rfl rfl rfl rfl (by simp) am (by simp;omega) (by simp) Zk Zk Zk Zk (fun f v down V I=>?_);obtain⟨v4,e4⟩:=Y4.1 (down 8 4 Zk (by rw[I];simp));have aa:=J6 down (i:=14) (j:=13) Zk V;exact⟨aa,by simp[Js,Jw,e4,I,V],by simp[Jk,I,V],fun x=>⟨by simp[Js,Jw,JT,e4,I],by simp[Jk,JT,I]⟩⟩
  ·refine Qj (q:=13) (by decide) (by simp) rfl rfl rfl Zk Zk (fun f v down I=>?_);obtain⟨v8,Z⟩:=Y4.1 (down 13 8 Zk (by rw[I];simp));obtain⟨v4,e4⟩:=Y4.1 (down 8 4 Zk (by rw[Z];simp));simp[Js,Jw,I,e4,Z]
 case fin=>
  intro G W f hz ao t r hf hV hX;have al:(∃v,f 4=some v)/\(∃v,f 8=some v)/\(∃v,f 13=some v):=⟨⟨_,hf 4 107 Zk⟩,⟨_,hf 8 111 Zk⟩,⟨_,hf 13 116 Zk⟩⟩
  have hL:Jk f L0 [(8,7,[[46],S]),(13,12,LT)]=(L0++[[46],S]++LT):=by
   obtain⟨⟨_,_⟩,⟨_,Z⟩,⟨_,Y⟩⟩:=al;simp[Jk,Z,Y]
  obtain⟨ah,_⟩:=hX.2.2 _ (hX.1 _ (hf 14 2 Zk));rw[hL]at ah;have ap:=J3 (ab W r);rw[JZ hz rfl ao t];clear hf hV hX t al hL cB cX cA sB ag ac J ab ak;generalize aq:G.tmps.getD 2 undef=v2 at ah;simp only[List.foldl,Option.getD];rw[aq];go_wp2;go_ret;exact⟨⟨_,rfl,by rw[J0 an];exact ah.mono af.size⟩,bon af ap⟩
theorem behind {LA LT:List Bs} {w W w1:Zw} {v u:Value} (s:ZB w W) (t:W.ownsRow w.heap.size 9 1 v LA.length (za8 LA)) (g:ZB W w1) (hu:w1.ownsRow W.heap.size 9 1 u LT.length (za8 LT)) (hp:0<LT.length) (x:LA.length+LT.length<=1000000) :
  ∃(r:Value) (c:Zw),(Builtin.append_ #[27,27] 27 #[v,u]).run Tryz.prog w1=.ok r c/\c.ownsRow w.heap.size 9 1 r (LA++LT).length (za8 (LA++LT))/\ZB w c:=by
 have G:=t.kept (Je g) (zan _);have h:ZB w w1:=bon s g;obtain⟨g2,L,rfl⟩:=za6 hu hp;obtain⟨g3,M,I,J,j⟩:=Left.appends G h.size x hp (Qb hu);exact⟨_,I,J,by simpa using j.1,h.trans j.2.1⟩
theorem tolds_11 (A N:Int) (S:Zy) (pt pn:Zo) (nt nn ct cn c m:Nat) (w:Zw) (g o:Nat) (L0:List Bs) (A' Y N':Int) (S':Zy) (qn qe q3:Zo) (n1 c1 n2 c2 n3 c3:Nat) (hp:0<L0.length) (hl:L0.length<=300000) (LT LA:List Bs) (G:0<LT.length) (ap:LT.length<=300000) (hm:m<=c) (an:LA=if Y=9 then zdo L0 else L0)
  (a0:w.cell? ⟨g,o,none⟩=some (Zi A')) (a1:w.cell? ⟨g,o+1,none⟩=some (Zi Y)) (a2:w.cell? ⟨g,o+2,none⟩=some (Zi N')) (a3:w.cell? ⟨g,o+3,none⟩=some (.string S')) (a4:w.cell? ⟨g,o+4,none⟩=some (.slice qn n1 c1)) (a5:w.cell? ⟨g,o+5,none⟩=some (.slice qe n2 c2)) (a6:w.cell? ⟨g,o+6,none⟩=some (.slice q3 n3 c3))
  (CT:∀W,ZB w W->Leaves 150 #[.slice (zic g o c) m c] W LT)
  (CL:∀W,ZB w W->Leaves 149 #[.agg #[Zi A',Zi Y,Zi N',.string S',.slice qn n1 c1,.slice qe n2 c2,.slice q3 n3 c3],Zi 7] W L0) :
  zcu A 11 N S pt pn (Zs g o) nt nn (m+1) ct cn (c+1) w (LA++LT):=by
 have hg:=J2 a0;have x:ZB w (w.alloc (zad A 11 N S pt pn (Zs g o) nt nn (m+1) ct cn (c+1))):=al1 _ _;have e0:=Zq x a0;have e1:=Zq x a1;have e2:=Zq x a2;have e3:=Zq x a3;have e4:=Zq x a4;have e5:=Zq x a5;have e6:=Zq x a6;have HC:=J3 (CL _ x);have I:=J3 CT;have j:=J3 x;have A1:=J3 a1;have ac:=J3 an;obtain⟨L,ah⟩:=Ze (LA++LT)
 rw[<-ah];have ad:=J3 ah;have m1:(m:Int)<=(c:Int):=by omega
 have m2:(1:Int)<=(m:Int)+1:=by omega
 clear CL CT a0 a1 a2 a3 a4 a5 a6 x an ah;go_enter Tryz.func116,Tryz.ntmps116;go_wp2_with fail;refine HC.mono ?_;rintro _ w1 ⟨⟨u1,rfl,Z⟩,V⟩;obtain⟨d0,d1,d2,d3,d4,d5,d6⟩:=Jx V;have ai:=bon j V;have f1:=(ai.cell (p:=⟨g,_,none⟩) (J2 A1)).trans A1;obtain⟨g2,aq,rfl⟩:=za6 Z hp;have aa:=J3 V;have aj:=J3 Z;clear HC e0 e1 e2 e3 e4 e5 e6;by_cases hk:Y=9
 ·subst hk;obtain⟨v2,W4,E2,v3,W5,E3,ak,al⟩:=aside (g0:=w1.heap.size) V rfl Z hp (by omega) rfl;obtain⟨x0,x1,x2,x3,x4,x5,x6⟩:=Jx al;obtain⟨g5,ar,rfl⟩:=za6 ak (by simp[zdo]);have ae:=J3 E2;have af:=J3 E3;have ao:=J3 ak;have ag:=J3 al;have ab:ZH (LA=zdo L0):=by show _=_;rw[J0 ac,Ye rfl]
  clear E2 E3 ak al Z V ai ac aj aa;by_cases hc:c=0
  ·obtain rfl:=hc;obtain rfl:m=0:=by omega
   rw[show zic g o 0=some ⟨g,o,none⟩from rfl]at I;go_wp2_with (first
    | (at_builtin;refine J4 rfl (.tmp 130) (.tmp 131) 27 rfl rfl rfl ae ?_;clear ae)
    | (at_builtin;refine J4 rfl (.tmp 132) (.tmp 133) 27 rfl rfl rfl af ?_;clear af))
   refine(I W5 (bon j ag)).mono ?_;rintro _ w2 ⟨⟨u2,rfl,h⟩,J⟩;obtain⟨g6,am,rfl⟩:=za6 h G;obtain⟨v6,W6,r,s,t⟩:=behind ag ao J h G (by simp[zdo];omega);have u:=J3 r;have M:=J3 (s.mono j.size);have U:=J3 (bon j t);clear r s t h;go_wp2_with (at_builtin;refine J4 rfl (.tmp 135) (.tmp 139) 27 rfl rfl rfl u ?_;clear u);go_ret;exact⟨⟨_,rfl,by rw[J0 ad,J0 ab];exact M⟩,U⟩
  ·rw[show zic g o c=some ⟨g,o+7,none⟩from Y7 hc]at I;go_wp2_with (first
    | (at_builtin;refine J4 rfl (.tmp 130) (.tmp 131) 27 rfl rfl rfl ae ?_;clear ae)
    | (at_builtin;refine J4 rfl (.tmp 132) (.tmp 133) 27 rfl rfl rfl af ?_;clear af))
   refine(I W5 (bon j ag)).mono ?_;rintro _ w2 ⟨⟨u2,rfl,h⟩,J⟩;obtain⟨g6,am,rfl⟩:=za6 h G;obtain⟨v6,W6,r,s,t⟩:=behind ag ao J h G (by simp[zdo];omega);have u:=J3 r;have M:=J3 (s.mono j.size);have U:=J3 (bon j t);clear r s t h;go_wp2_with (at_builtin;refine J4 rfl (.tmp 135) (.tmp 139) 27 rfl rfl rfl u ?_;clear u);go_ret;exact⟨⟨_,rfl,by rw[J0 ad,J0 ab];exact M⟩,U⟩
 ·have au:(Y==9)=false:=Y3.2 hk;have ab:ZH (LA=L0):=by show _=_;rw[J0 ac,Y7 hk]
  clear hk ac Z V ai;by_cases hc:c=0
  ·obtain rfl:=hc;obtain rfl:m=0:=by omega
   rw[show zic g o 0=some ⟨g,o,none⟩from rfl]at I;go_wp2_with fail;refine(I w1 (bon j aa)).mono ?_;rintro _ w2 ⟨⟨u2,rfl,h⟩,J⟩;obtain⟨g6,am,rfl⟩:=za6 h G;obtain⟨v6,W6,r,s,t⟩:=behind aa aj J h G (by omega);have u:=J3 r;have M:=J3 (s.mono j.size);have U:=J3 (bon j t);clear r s t h;go_wp2_with (at_builtin;refine J4 rfl (.tmp 135) (.tmp 139) 27 rfl rfl rfl u ?_;clear u);go_ret;exact⟨⟨_,rfl,by rw[J0 ad,J0 ab];exact M⟩,U⟩
  ·rw[show zic g o c=some ⟨g,o+7,none⟩from Y7 hc]at I;go_wp2_with fail;refine(I w1 (bon j aa)).mono ?_;rintro _ w2 ⟨⟨u2,rfl,h⟩,J⟩;obtain⟨g6,am,rfl⟩:=za6 h G;obtain⟨v6,W6,r,s,t⟩:=behind aa aj J h G (by omega);have u:=J3 r;have M:=J3 (s.mono j.size);have U:=J3 (bon j t);clear r s t h;go_wp2_with (at_builtin;refine J4 rfl (.tmp 135) (.tmp 139) 27 rfl rfl rfl u ?_;clear u);go_ret;exact⟨⟨_,rfl,by rw[J0 ad,J0 ab];exact M⟩,U⟩
end Go.Proofs.YtdcbglnhhbmpgaaGreatDoor
