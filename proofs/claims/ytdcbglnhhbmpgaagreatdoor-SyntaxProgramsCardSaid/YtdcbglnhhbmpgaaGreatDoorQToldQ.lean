import Derived.Test.YtdcbglnhhbmpgaaGreatDoorQToldP
set_option maxHeartbeats 2000000
set_option maxRecDepth 100000
namespace Go.Proofs.YtdcbglnhhbmpgaaGreatDoor
open Go Go.RowKit Lx
section
variable {o:Oper} {a:Act} {w:Zw} {K:Act->Zw->Prop} {Q:Exit->Act->Zw->Prop}
theorem zae {x:Operand} {b i:Nat} (j:i<7) (c:o.op=.fieldAddr 62 x i) (g:a.eval x=.pointer (Zs b 0)) (h:K (a.put o.dst (.pointer (Zs b i))) w):o.wp Tryz.prog a w K Q:=by
 unfold Oper.wp
 match i,j with
 | 0,_=>simp only[execOp,c,g];go_simp;exact h
 | 1,_=>simp only[execOp,c,g];go_simp;exact h
 | 2,_=>simp only[execOp,c,g];go_simp;exact h
 | 3,_=>simp only[execOp,c,g];go_simp;exact h
 | 4,_=>simp only[execOp,c,g];go_simp;exact h
 | 5,_=>simp only[execOp,c,g];go_simp;exact h
 | 6,_=>simp only[execOp,c,g];go_simp;exact h
theorem zd8 {x:Operand} {b i:Nat} {p:Zo} {n c:Nat} (g:o.op=.load 60 x) (j:a.eval x=.pointer (Zs b i)) (r:w.cell? ⟨b,i,none⟩=some (.slice p n c)) (h:K (a.put o.dst (.slice p n c)) w):o.wp Tryz.prog a w K Q:=by
 unfold Oper.wp;simp only[execOp,g,j];go_simp;exact h
theorem zcv {x y:Operand} {g e:Nat} {n c k:Nat} (j:o.op=.indexAddr 60 x y) (r:a.eval x=.slice (Zs g e) n c) (s:a.eval y=Zi (k:Int)) (t:(k:Int)<(n:Int)) (h:K (a.put o.dst (.pointer (Zs g (e+k*7)))) w):o.wp Tryz.prog a w K Q:=by
 unfold Oper.wp;simp only[execOp,j,r,s];go_simp;exact h
theorem zdw {x:Operand} {b i:Nat} {c g j c3 c4 c5 r:Value} (t:o.op=.load 62 x) (u:a.eval x=.pointer (Zs b i)) (s:ZK7 w b i c g j c3 c4 c5 r) (h:K (a.put o.dst (.agg #[c,g,j,c3,c4,c5,r])) w):o.wp Tryz.prog a w K Q:=by
 obtain⟨s,G,I,J,L,M,U⟩:=s;unfold Oper.wp;simp only[execOp,t,u];go_simp;exact h
theorem zgp {x y:Operand} {s t:Zy} (c:o.op=.buildSlice 27 2 #[(0,x),(1,y)]) (g:a.eval x=.string s) (j:a.eval y=.string t) (h:K (a.put o.dst (.slice (Zs w.heap.size 0) 2 2)) (w.alloc (.cells #[.string s,.string t] 9))):o.wp Tryz.prog a w K Q:=by
 unfold Oper.wp;simp only[execOp,c,Xp,Yf,YG,g,j];go_simp;exact h
end
theorem zfa (args:Array Value) (w:Zw):Sem.run Tryz.prog (callFunc 149 args) w=.ok (.enter 149 args) w:=by kernel_rfl
theorem args_enter (args:Array Value) (w:Zw):Sem.run Tryz.prog (callFunc 150 args) w=.ok (.enter 150 args) w:=by kernel_rfl
theorem told_enter (args:Array Value) (w:Zw):Sem.run Tryz.prog (callFunc 116 args) w=.ok (.enter 116 args) w:=by kernel_rfl
theorem sign_enter (args:Array Value) (w:Zw):Sem.run Tryz.prog (callFunc 152 args) w=.ok (.enter 152 args) w:=by kernel_rfl
theorem src2 (W:Zw) (s t:Bs):SRow (W.alloc (.cells #[.string ⟨s.toArray⟩,.string ⟨t.toArray⟩] 9)) (.slice (Zs W.heap.size 0) 2 2) [s,t]/\∀g,(Value.slice (Zs W.heap.size 0) 2 2).ownBlock=some g->W.heap.size<=g/\g<(W.alloc (.cells #[.string ⟨s.toArray⟩,.string ⟨t.toArray⟩] 9)).heap.size:=
 ⟨Qb (zi5 W s t),fun g c=>(zi5 W s t).lt g c⟩
def v30 (b g o:Nat) (vp vx:Value) (s:Zy):List (Option Value):=[some (.pointer (Zs b 6)),some (vp),some (.pointer (Zs g (o+0*7))),some (vx),none,some (.pointer (Zs b 3)),some (.string s),none,none,none]
theorem tolds_9 (A N:Int) (S:Bs) (pt pn:Zo) (nt nn ct cn cp:Nat) (w:Zw) (g o:Nat) (L0:List Bs) (J U V:Int) (S':Zy) (Y Z q3:Zo) (n1 c1 n2 c2 n3 c3:Nat) (hp:0<L0.length) (hl:L0.length<=300000)
  (a0:w.cell? ⟨g,o,none⟩=some (Zi J)) (a1:w.cell? ⟨g,o+1,none⟩=some (Zi U)) (a2:w.cell? ⟨g,o+2,none⟩=some (Zi V)) (a3:w.cell? ⟨g,o+3,none⟩=some (.string S')) (a4:w.cell? ⟨g,o+4,none⟩=some (.slice Y n1 c1)) (a5:w.cell? ⟨g,o+5,none⟩=some (.slice Z n2 c2)) (a6:w.cell? ⟨g,o+6,none⟩=some (.slice q3 n3 c3))
  (CL:∀W,ZB w W->Leaves 149 #[.agg #[Zi J,Zi U,Zi V,.string S',.slice Y n1 c1,.slice Z n2 c2,.slice q3 n3 c3],Zi 7] W L0) :
  zcu A 9 N ⟨S.toArray⟩ pt pn (Zs g o) nt nn 1 ct cn cp w (L0++[[46],S]):=by
 have I:=J2 a0;obtain⟨L,ac⟩:=Ze ((L0++[[46],S]))
 rw[<-ac];have am:=J3 ac;clear ac;obtain⟨w1,ad⟩:=Ze (w.alloc (zad A 9 N ⟨S.toArray⟩ pt pn (Zs g o) nt nn 1 ct cn cp))
 have ah:=J3 ad;have ae:ZB w w1:=by rw[ad];exact al1 _ _
 have ai:∀W,ZB w1 W->_:=fun W (h:ZB w1 W)=>Jx (w:=w) (A:=A) (K:=9) (N:=N) (S:=⟨S.toArray⟩) (pt:=pt) (pn:=pn) (pp:=some ⟨g,o,none⟩) (nt:=nt) (nn:=nn) (np:=1) (ct:=ct) (cn:=cn) (cp:=cp) (wr:=W) (by rw[<-J0 ah];exact h)
 obtain⟨B,ab,aj,sB,ak,af⟩:=Zx w1
 have G:∀W,B W->ZB w W:=fun W h=>bon ae (ab W h)
 have cB:∀W,B W->_:=fun W h=>ai W (ab W h)
 have cX:∀W,B W->ZK7 W g o (Zi J) (Zi U) (Zi V) (.string S') (.slice Y n1 c1) (.slice Z n2 c2) (.slice q3 n3 c3):=fun W h=>⟨((G W h).cell (p:=⟨g,_,none⟩) I).trans a0,((G W h).cell (p:=⟨g,_,none⟩) I).trans a1,((G W h).cell (p:=⟨g,_,none⟩) I).trans a2,((G W h).cell (p:=⟨g,_,none⟩) I).trans a3,((G W h).cell (p:=⟨g,_,none⟩) I).trans a4,((G W h).cell (p:=⟨g,_,none⟩) I).trans a5,((G W h).cell (p:=⟨g,_,none⟩) I).trans a6⟩
 have cA:∀W,B W->Leaves 149 #[.agg #[Zi J,Zi U,Zi V,.string S',.slice Y n1 c1,.slice Z n2 c2,.slice q3 n3 c3],Zi 7] W L0:=fun W h=>CL W (G W h)
 clear CL a0 a1 a2 a3 a4 a5 a6 ai ad;go_enter Tryz.func116,Tryz.ntmps116;go_wp2_with fail;rw[<-J0 ah];refine JL (n:=199) Zk Zk Zk rfl B (VP (v30 w.heap.size g o (.slice (Zs g o) 1 cp) (.agg #[Zi J,Zi U,Zi V,.string S',.slice Y n1 c1,.slice Z n2 c2,.slice q3 n3 c3]) ⟨S.toArray⟩)) (XCh w1.heap.size 4 9 none L0 [(8,7,[[46],S])])
  (aj _ (Jb Zr)) (Qd (fun v hv=>by cases hv)) ?each ?fin
 case each=>
  refine⟨?_,?_,?_,?_,?_,?_,?_,?_,?_,?_,trivial⟩
  ·exact Yp sB fun t W r c dep=>zae (by decide) rfl (show t.eval (.tmp 1)=Value.pointer (Zs w.heap.size 0)from r 1 Zk) ⟨_,rfl,Zr,rfl⟩
  ·exact Yp sB fun t W r c dep=>zd8 rfl (dep 0 92 _ Zk Zk rfl) (cB W c).2.2.2.2.2.2 ⟨_,rfl,Zr,rfl⟩
  ·exact Yp sB fun t W r c dep=>zcv (k:=0) rfl (dep 1 93 _ Zk Zk rfl) rfl (by simp) ⟨_,rfl,Zr,rfl⟩
  ·exact Yp sB fun t W r c dep=>zdw rfl (dep 2 94 _ Zk Zk rfl) (cX W c) ⟨_,rfl,Zr,rfl⟩
  ·refine Qh sB af (by decide) (by simp) rfl (fun f down aa=>?_) (fun t W hz r c dep=>⟨J1 rfl,zdt rfl (dep 3 95 _ Zk Zk rfl) rfl zfa ((cA W c).mono fun e w' ⟨⟨u,he,h1⟩,hb⟩=>⟨u,he,u,rfl,hb,h1⟩)⟩);have e8:=J6 down (i:=8) (j:=4) Zk aa;have e9:=J6 down (i:=9) (j:=8) Zk e8;exact⟨e9,by simp[e8]⟩
  ·exact Yp sB fun t W r c dep=>zae (by decide) rfl (show t.eval (.tmp 1)=Value.pointer (Zs w.heap.size 0)from r 1 Zk) ⟨_,rfl,Zr,rfl⟩
  ·exact Yp sB fun t W r c dep=>zaz rfl (dep 5 97 _ Zk Zk rfl) (cB W c).2.2.2.1 ⟨_,rfl,Zr,rfl⟩
  ·exact Qf (M:=[[46],S]) sB (by decide) (by decide) (by simp) rfl (fun t W hz r c dep=>⟨J1 rfl,zgp (s:=⟨#[46]⟩) rfl rfl (dep 6 98 _ Zk Zk rfl) ⟨_,rfl,al1 _ _,src2 W [46] S⟩⟩)
  ·refine Qi (q:=4) (s:=7) (Lq:=L0) (M:=[[46],S]) ak af (by decide) rfl rfl rfl rfl (by simp) (by simp) (by simp;omega) (by simp) Zk Zk Zk Zk (fun f v down aa hq=>?_);have e9:=J6 down (i:=9) (j:=8) Zk aa;exact⟨e9,by simp[Js,Jw,hq,aa],by simp[Jk,aa],fun x=>⟨by simp[Js,Jw,JT,hq],by simp[Jk,JT]⟩⟩
  ·refine Qj (q:=8) (by decide) (by simp) rfl rfl rfl Zk Zk (fun f v down hq=>?_);obtain⟨v4,e4⟩:=Y4.1 (down 8 4 Zk (by rw[hq];simp));simp[Js,Jw,hq,e4]
 case fin=>
  intro t W f hz an r c hf hV hX;have al:(∃v,f 4=some v)/\(∃v,f 8=some v):=⟨⟨_,hf 4 96 Zk⟩,⟨_,hf 8 100 Zk⟩⟩
  have hL:Jk f L0 [(8,7,[[46],S])]=(L0++[[46],S]):=by
   obtain⟨⟨_,_⟩,⟨_,e8⟩⟩:=al;simp[Jk,e8]
  obtain⟨ag,_⟩:=hX.2.2 _ (hX.1 _ (hf 9 2 Zk));rw[hL]at ag;have ao:=J3 (ab W c);rw[JZ hz rfl an r];clear hf hV hX r al hL cB cX cA sB ak af G ab aj;generalize ap:t.tmps.getD 2 undef=v2 at ag;simp only[List.foldl,Option.getD];rw[ap];go_wp2;go_ret;exact⟨⟨_,rfl,by rw[J0 am];exact ag.mono ae.size⟩,bon ae ao⟩
def v39 (b g o:Nat) (vp vx:Value) (gt c:Nat) (vt h:Value):List (Option Value):=[some (.pointer (Zs b 6)),some (vp),some (.pointer (Zs g (o+0*7))),some (vx),none,none,none,some (.pointer (Zs b 4)),some (vt),some (.pointer (Zs gt (c+0*5))),some (h),none,none,none]
theorem tolds_12 (A N:Int) (S:Zy) (pn:Zo) (nn ct cn cp:Nat) (w:Zw) (g o:Nat) (L0:List Bs) (A' K' N':Int) (S':Zy) (qn qe q3:Zo) (n1 c1 n2 c2 n3 c3:Nat) (hp:0<L0.length) (hl:L0.length<=300000) (gt I:Nat) (LT:List Bs) (kt:Int) (st:Zy) (tn te tp:Zo) (m1 d1 m2 d2 m3 d3:Nat) (an:0<LT.length) (au:LT.length<=300000)
  (a0:w.cell? ⟨g,o,none⟩=some (Zi A')) (a1:w.cell? ⟨g,o+1,none⟩=some (Zi K')) (a2:w.cell? ⟨g,o+2,none⟩=some (Zi N')) (a3:w.cell? ⟨g,o+3,none⟩=some (.string S')) (a4:w.cell? ⟨g,o+4,none⟩=some (.slice qn n1 c1)) (a5:w.cell? ⟨g,o+5,none⟩=some (.slice qe n2 c2)) (a6:w.cell? ⟨g,o+6,none⟩=some (.slice q3 n3 c3))
  (t0:w.cell? ⟨gt,I,none⟩=some (Zi kt)) (t1:w.cell? ⟨gt,I+1,none⟩=some (.string st)) (t2:w.cell? ⟨gt,I+2,none⟩=some (.slice tn m1 d1)) (t3:w.cell? ⟨gt,I+3,none⟩=some (.slice te m2 d2)) (t4:w.cell? ⟨gt,I+4,none⟩=some (.slice tp m3 d3))
  (CT:∀W,ZB w W->Leaves 34 #[.agg #[Zi kt,.string st,.slice tn m1 d1,.slice te m2 d2,.slice tp m3 d3]] W LT)
  (CL:∀W,ZB w W->Leaves 149 #[.agg #[Zi A',Zi K',Zi N',.string S',.slice qn n1 c1,.slice qe n2 c2,.slice q3 n3 c3],Zi 7] W L0) :
  zcu A 12 N S (Zs gt I) pn (Zs g o) 1 nn 1 ct cn cp w (L0++[[116,111]]++LT):=by
 have U:=J2 a0;obtain⟨L,ae⟩:=Ze ((L0++[[116,111]]++LT))
 rw[<-ae];have ao:=J3 ae;clear ae;obtain⟨w1,af⟩:=Ze (w.alloc (zad A 12 N S (Zs gt I) pn (Zs g o) 1 nn 1 ct cn cp))
 have aj:=J3 af;have ag:ZB w w1:=by rw[af];exact al1 _ _
 have ak:∀W,ZB w1 W->_:=fun W (h:ZB w1 W)=>Jx (w:=w) (A:=A) (K:=12) (N:=N) (S:=S) (pt:=(Zs gt I)) (pn:=pn) (pp:=some ⟨g,o,none⟩) (nt:=1) (nn:=nn) (np:=1) (ct:=ct) (cn:=cn) (cp:=cp) (wr:=W) (by rw[<-J0 aj];exact h)
 obtain⟨B,ac,al,sB,ah,ad⟩:=Zx w1
 have r:∀W,B W->ZB w W:=fun W h=>bon ag (ac W h)
 have cB:∀W,B W->_:=fun W h=>ak W (ac W h)
 have cX:∀W,B W->ZK7 W g o (Zi A') (Zi K') (Zi N') (.string S') (.slice qn n1 c1) (.slice qe n2 c2) (.slice q3 n3 c3):=fun W h=>⟨((r W h).cell (p:=⟨g,_,none⟩) U).trans a0,((r W h).cell (p:=⟨g,_,none⟩) U).trans a1,((r W h).cell (p:=⟨g,_,none⟩) U).trans a2,((r W h).cell (p:=⟨g,_,none⟩) U).trans a3,((r W h).cell (p:=⟨g,_,none⟩) U).trans a4,((r W h).cell (p:=⟨g,_,none⟩) U).trans a5,((r W h).cell (p:=⟨g,_,none⟩) U).trans a6⟩
 have cA:∀W,B W->Leaves 149 #[.agg #[Zi A',Zi K',Zi N',.string S',.slice qn n1 c1,.slice qe n2 c2,.slice q3 n3 c3],Zi 7] W L0:=fun W h=>CL W (r W h)
 have aa:=J2 t0;have cT:∀W,B W->ZK5 W gt I (Zi kt) (.string st) (.slice tn m1 d1) (.slice te m2 d2) (.slice tp m3 d3):=fun W h=>⟨((r W h).cell (p:=⟨gt,_,none⟩) aa).trans t0,((r W h).cell (p:=⟨gt,_,none⟩) aa).trans t1,((r W h).cell (p:=⟨gt,_,none⟩) aa).trans t2,((r W h).cell (p:=⟨gt,_,none⟩) aa).trans t3,((r W h).cell (p:=⟨gt,_,none⟩) aa).trans t4⟩
 have cY:∀W,B W->Leaves 34 #[.agg #[Zi kt,.string st,.slice tn m1 d1,.slice te m2 d2,.slice tp m3 d3]] W LT:=fun W h=>CT W (r W h)
 clear CL a0 a1 a2 a3 a4 a5 a6 ak af CT t0 t1 t2 t3 t4;go_enter Tryz.func116,Tryz.ntmps116;go_wp2_with fail;rw[<-J0 aj];refine JL (n:=199) Zk Zk Zk rfl B (VP (v39 w.heap.size g o (.slice (Zs g o) 1 cp) (.agg #[Zi A',Zi K',Zi N',.string S',.slice qn n1 c1,.slice qe n2 c2,.slice q3 n3 c3]) gt I (.slice (Zs gt I) 1 ct) (.agg #[Zi kt,.string st,.slice tn m1 d1,.slice te m2 d2,.slice tp m3 d3]))) (XCh w1.heap.size 4 13 none L0 [(6,5,[[116,111]]),(12,11,LT)])
  (al _ (Jb Zr)) (Qd (fun v hv=>by cases hv)) ?each ?fin
 case each=>
  refine⟨?_,?_,?_,?_,?_,?_,?_,?_,?_,?_,?_,?_,?_,?_,trivial⟩
  ·exact Yp sB fun G W t c dep=>zae (by decide) rfl (show G.eval (.tmp 1)=Value.pointer (Zs w.heap.size 0)from t 1 Zk) ⟨_,rfl,Zr,rfl⟩
  ·exact Yp sB fun G W t c dep=>zd8 rfl (dep 0 143 _ Zk Zk rfl) (cB W c).2.2.2.2.2.2 ⟨_,rfl,Zr,rfl⟩
  ·exact Yp sB fun G W t c dep=>zcv (k:=0) rfl (dep 1 144 _ Zk Zk rfl) rfl (by simp) ⟨_,rfl,Zr,rfl⟩
  ·exact Yp sB fun G W t c dep=>zdw rfl (dep 2 145 _ Zk Zk rfl) (cX W c) ⟨_,rfl,Zr,rfl⟩
  ·refine Qh sB ad (by decide) (by simp) rfl (fun f down V=>?_) (fun G W hz t c dep=>⟨J1 rfl,zdt rfl (dep 3 146 _ Zk Zk rfl) rfl zfa ((cA W c).mono fun e w' ⟨⟨u,he,h1⟩,hb⟩=>⟨u,he,u,rfl,hb,h1⟩)⟩);have Z:=J6 down (i:=6) (j:=4) Zk V;have Y:=J6 down (i:=12) (j:=6) Zk Z;have ab:=J6 down (i:=13) (j:=12) Zk Y;exact⟨ab,by simp[Z,Y]⟩
  ·exact Qf (M:=[[116,111]]) sB (by decide) (by decide) (by simp) rfl (fun G W hz t c dep=>⟨J1 rfl,zb7 (s:=⟨#[116,111]⟩) rfl rfl ⟨_,rfl,al1 _ _,src1 W [116,111]⟩⟩)
  ·refine Qi (q:=4) (s:=5) (Lq:=L0) (M:=[[116,111]]) ah ad (by decide) rfl rfl rfl rfl (by simp) (by simp) (by simp;omega) (by simp) Zk Zk Zk Zk (fun f v down V J=>?_);have Y:=J6 down (i:=12) (j:=6) Zk V;have ab:=J6 down (i:=13) (j:=12) Zk Y;exact⟨ab,by simp[Js,Jw,J,V],by simp[Jk,V],fun x=>⟨by simp[Js,Jw,JT,J,Y],by simp[Jk,JT,Y]⟩⟩
  ·exact Yp sB fun G W t c dep=>zae (by decide) rfl (show G.eval (.tmp 1)=Value.pointer (Zs w.heap.size 0)from t 1 Zk) ⟨_,rfl,Zr,rfl⟩
  ·exact Yp sB fun G W t c dep=>zk4 rfl (dep 7 150 _ Zk Zk rfl) (cB W c).2.2.2.2.1 ⟨_,rfl,Zr,rfl⟩
  ·exact Yp sB fun G W t c dep=>zi8 (k:=0) rfl (dep 8 151 _ Zk Zk rfl) rfl (by simp) ⟨_,rfl,Zr,rfl⟩
  ·exact Yp sB fun G W t c dep=>zmo rfl (dep 9 152 _ Zk Zk rfl) (cT W c).1 (cT W c).2.1 (cT W c).2.2.1 (cT W c).2.2.2.1 (cT W c).2.2.2.2 ⟨_,rfl,Zr,rfl⟩
  ·exact Qf (M:=LT) sB (by decide) (by decide) (by simp) rfl (fun G W hz t c dep=>⟨J1 rfl,zai rfl (dep 10 153 _ Zk Zk rfl) zd0 ((cY W c).mono fun e w' ⟨⟨u,he,h1⟩,hb⟩=>⟨u,he,u,rfl,hb,Qb h1,fun g U=>h1.lt g U⟩)⟩)
  ·refine Qi (q:=6) (s:=11) (Lq:=(L0++[[116,111]])) (M:=LT) ah ad (by decide) rfl rfl rfl rfl (by simp) an (by simp;omega) (by simp) Zk Zk Zk Zk (fun f v down V J=>?_);obtain⟨v4,e4⟩:=Y4.1 (down 6 4 Zk (by rw[J];simp));have ab:=J6 down (i:=13) (j:=12) Zk V;exact⟨ab,by simp[Js,Jw,e4,J,V],by simp[Jk,J,V],fun x=>⟨by simp[Js,Jw,JT,e4,J],by simp[Jk,JT,J]⟩⟩
  ·refine Qj (q:=12) (by decide) (by simp) rfl rfl rfl Zk Zk (fun f v down J=>?_);obtain⟨v6,Z⟩:=Y4.1 (down 12 6 Zk (by rw[J];simp));obtain⟨v4,e4⟩:=Y4.1 (down 6 4 Zk (by rw[Z];simp));simp[Js,Jw,J,e4,Z]
 case fin=>
  intro G W f hz ap t c hf hV hX;have am:(∃v,f 4=some v)/\(∃v,f 6=some v)/\(∃v,f 12=some v):=⟨⟨_,hf 4 147 Zk⟩,⟨_,hf 6 149 Zk⟩,⟨_,hf 12 155 Zk⟩⟩
  have hL:Jk f L0 [(6,5,[[116,111]]),(12,11,LT)]=(L0++[[116,111]]++LT):=by
   obtain⟨⟨_,_⟩,⟨_,Z⟩,⟨_,Y⟩⟩:=am;simp[Jk,Z,Y]
  obtain⟨ai,_⟩:=hX.2.2 _ (hX.1 _ (hf 13 2 Zk));rw[hL]at ai;have aq:=J3 (ac W c);rw[JZ hz rfl ap t];clear hf hV hX t am hL cB cX cA sB ah ad r ac al;generalize ar:G.tmps.getD 2 undef=v2 at ai;simp only[List.foldl,Option.getD];rw[ar];go_wp2;go_ret;exact⟨⟨_,rfl,by rw[J0 ao];exact ai.mono ag.size⟩,bon ag aq⟩
section
variable {o:Oper} {a:Act} {w:Zw} {K:Act->Zw->Prop} {Q:Exit->Act->Zw->Prop}
theorem op_loadI {x:Operand} {b i:Nat} {n:Int} (c:o.op=.load 3 x) (g:a.eval x=.pointer (Zs b i)) (j:w.cell? ⟨b,i,none⟩=some (Zi n)) (h:K (a.put o.dst (Zi n)) w):o.wp Tryz.prog a w K Q:=by
 unfold Oper.wp;simp only[execOp,c,g];go_simp;exact h
theorem op_addI {x:Operand} {n:Int} (c:o.op=.binOp .add 3 x (.const (Zi 1)) 3) (g:a.eval x=Zi n) (r:0<=n) (s:n<=1000000) (h:K (a.put o.dst (Zi (n+1))) w):o.wp Tryz.prog a w K Q:=by
 have j:a.eval (.const (Zi 1))=Zi 1:=rfl;unfold Oper.wp;simp only[execOp,c,g,j];simp[go_sem];rw[show IntKind.i64.wrap (n+1)=n+1 by rw[YJ];omega];exact h
end
def v48 (b g o:Nat) (vp vx h:Value) (c j r:Int) (s:Zy):List (Option Value):=[some (.pointer (Zs b 6)),some (vp),some (.pointer (Zs g (o+0*7))),some (vx),some (Zi j),none,some (.pointer (Zs b 1)),some (Zi r),some (.string s),none,none,some (.pointer (Zs b 6)),some (vp),some (.pointer (Zs g (o+1*7))),some (h),some (Zi c),some (Zi (c+1)),none,none,none]
theorem tolds_two3 (A K N:Int) (S:Zy) (I:Bs) (pt pn:Zo) (nt nn ct cn cp:Nat) (w:Zw) (g o:Nat) (L0:List Bs) (Z K' N':Int) (S':Zy) (qn qe q3:Zo) (n1 c1 n2 c2 n3 c3:Nat) (hp:0<L0.length) (hl:L0.length<=300000) (LT:List Bs) (A2 K2 N2:Int) (S2:Zy) (rn re r3:Zo) (m1 d1 m2 d2 m3 d3:Nat) (au:0<LT.length) (az:LT.length<=300000) (k1:15<=K) (k2:K<=21) (aj:zab K=3) (ak:signS K=I)
  (a0:w.cell? ⟨g,o,none⟩=some (Zi Z)) (a1:w.cell? ⟨g,o+1,none⟩=some (Zi K')) (a2:w.cell? ⟨g,o+2,none⟩=some (Zi N')) (a3:w.cell? ⟨g,o+3,none⟩=some (.string S')) (a4:w.cell? ⟨g,o+4,none⟩=some (.slice qn n1 c1)) (a5:w.cell? ⟨g,o+5,none⟩=some (.slice qe n2 c2)) (a6:w.cell? ⟨g,o+6,none⟩=some (.slice q3 n3 c3))
  (b0:w.cell? ⟨g,o+7,none⟩=some (Zi A2)) (b1:w.cell? ⟨g,o+7+1,none⟩=some (Zi K2)) (b2:w.cell? ⟨g,o+7+2,none⟩=some (Zi N2)) (b3:w.cell? ⟨g,o+7+3,none⟩=some (.string S2)) (b4:w.cell? ⟨g,o+7+4,none⟩=some (.slice rn m1 d1)) (b5:w.cell? ⟨g,o+7+5,none⟩=some (.slice re m2 d2)) (b6:w.cell? ⟨g,o+7+6,none⟩=some (.slice r3 m3 d3))
  (CL:∀W,ZB w W->Leaves 149 #[.agg #[Zi Z,Zi K',Zi N',.string S',.slice qn n1 c1,.slice qe n2 c2,.slice q3 n3 c3],Zi 4] W L0)
  (al:∀W,ZB w W->Leaves 149 #[.agg #[Zi A2,Zi K2,Zi N2,.string S2,.slice rn m1 d1,.slice re m2 d2,.slice r3 m3 d3],Zi (3+1)] W LT) :
  zcu A K N S pt pn (Zs g o) nt nn 2 ct cn cp w (L0++[I]++LT):=by
 have hg:=J2 a0;obtain⟨L,ae⟩:=Ze (L0++[I]++LT)
 rw[<-ae];have av:=J3 ae;clear ae;have LV:ZH (∀W,Zg 151 #[Zi K] W fun e w'=>e=.returned (Zi 3)/\W=w'):=fun W=>by rw[<-aj];exact zjo K W (by omega) k2
 have cG:∀W,Zg 152 #[Zi K] W fun e w'=>e=.returned (.string ⟨I.toArray⟩)/\W=w':=fun W=>by rw[<-ak];exact rsign_any K W k1 k2
 have aA:(K==1)=false:=Y3.2 (by omega);have aB:(K==2)=false:=Y3.2 (by omega);have aC:(K==3)=false:=Y3.2 (by omega);have aD:(K==4)=false:=Y3.2 (by omega);have aE:(K==5)=false:=Y3.2 (by omega);have aF:(K==6)=false:=Y3.2 (by omega);have aG:(K==7)=false:=Y3.2 (by omega);have aH:(K==8)=false:=Y3.2 (by omega);have aI:(K==9)=false:=Y3.2 (by omega);have aJ:(K==10)=false:=Y3.2 (by omega);have aK:(K==11)=false:=Y3.2 (by omega);have aL:(K==12)=false:=Y3.2 (by omega);have aM:(K==13)=false:=Y3.2 (by omega);have aN:(K==14)=false:=Y3.2 (by omega);obtain⟨w1,af⟩:=Ze (w.alloc (zad A K N S pt pn (Zs g o) nt nn 2 ct cn cp))
 have am:=J3 af;have ag:ZB w w1:=by rw[af];exact al1 _ _
 have an:∀W,ZB w1 W->_:=fun W (h:ZB w1 W)=>Jx (w:=w) (A:=A) (K:=K) (N:=N) (S:=S) (pt:=pt) (pn:=pn) (pp:=some ⟨g,o,none⟩) (nt:=nt) (nn:=nn) (np:=2) (ct:=ct) (cn:=cn) (cp:=cp) (wr:=W) (by rw[<-J0 am];exact h)
 obtain⟨B,ab,ao,sB,ah,ac⟩:=Zx w1
 have ad:∀W,B W->ZB w W:=fun W h=>bon ag (ab W h)
 have cB:∀W,B W->_:=fun W h=>an W (ab W h)
 have G:∀W,B W->∀i v,w.cell? ⟨g,i,none⟩=some v->W.cell? ⟨g,i,none⟩=some v:=fun W h i v e=>((ad W h).cell (p:=⟨g,_,none⟩) hg).trans e
 have cX:∀W,B W->ZK7 W g o (Zi Z) (Zi K') (Zi N') (.string S') (.slice qn n1 c1) (.slice qe n2 c2) (.slice q3 n3 c3):=fun W h=>⟨G W h _ _ a0,G W h _ _ a1,G W h _ _ a2,G W h _ _ a3,G W h _ _ a4,G W h _ _ a5,G W h _ _ a6⟩
 have ap:∀W,B W->W.cell? ⟨g,o+7,none⟩=some (Zi A2)/\W.cell? ⟨g,o+7+1,none⟩=some (Zi K2)/\W.cell? ⟨g,o+7+2,none⟩=some (Zi N2)/\W.cell? ⟨g,o+7+3,none⟩=some (.string S2)/\W.cell? ⟨g,o+7+4,none⟩=some (.slice rn m1 d1)/\W.cell? ⟨g,o+7+5,none⟩=some (.slice re m2 d2)/\W.cell? ⟨g,o+7+6,none⟩=some (.slice r3 m3 d3):=fun W h=>⟨G W h _ _ b0,G W h _ _ b1,G W h _ _ b2,G W h _ _ b3,G W h _ _ b4,G W h _ _ b5,G W h _ _ b6⟩
 have cA:∀W,B W->Leaves 149 #[.agg #[Zi Z,Zi K',Zi N',.string S',.slice qn n1 c1,.slice qe n2 c2,.slice q3 n3 c3],Zi 4] W L0:=fun W h=>CL W (ad W h)
 have aq:∀W,B W->Leaves 149 #[.agg #[Zi A2,Zi K2,Zi N2,.string S2,.slice rn m1 d1,.slice re m2 d2,.slice r3 m3 d3],Zi (3+1)] W LT:=fun W h=>al W (ad W h)
 clear CL al G a0 a1 a2 a3 a4 a5 a6 b0 b1 b2 b3 b4 b5 b6 an af aj ak;go_enter Tryz.func116,Tryz.ntmps116;go_wp2_with fail;refine(LV _).mono ?_;rintro _ w9 ⟨rfl,rfl⟩;go_wp2_with fail;rw[<-J0 am];refine JL (n:=199) Zk Zk Zk rfl B (VP (v48 w.heap.size g o (.slice (Zs g o) 2 cp) (.agg #[Zi Z,Zi K',Zi N',.string S',.slice qn n1 c1,.slice qe n2 c2,.slice q3 n3 c3]) (.agg #[Zi A2,Zi K2,Zi N2,.string S2,.slice rn m1 d1,.slice re m2 d2,.slice r3 m3 d3]) 3 4 K ⟨I.toArray⟩)) (XCh w1.heap.size 5 19 none L0 [(10,9,[I]),(18,17,LT)])
  (ao _ (Jb Zr)) (Qd (fun v hv=>by cases hv)) ?each ?fin
 case each=>
  refine⟨?_,?_,?_,?_,?_,?_,?_,?_,?_,?_,?_,?_,?_,?_,?_,?_,?_,?_,?_,?_,trivial⟩
  ·exact Yp sB fun t W r c dep=>zae (by decide) rfl (show t.eval (.tmp 1)=Value.pointer (Zs w.heap.size 0)from r 1 Zk) ⟨_,rfl,Zr,rfl⟩
  ·exact Yp sB fun t W r c dep=>zd8 rfl (dep 0 180 _ Zk Zk rfl) (cB W c).2.2.2.2.2.2 ⟨_,rfl,Zr,rfl⟩
  ·exact Yp sB fun t W r c dep=>zcv (k:=0) rfl (dep 1 181 _ Zk Zk rfl) rfl (by simp) ⟨_,rfl,Zr,rfl⟩
  ·exact Yp sB fun t W r c dep=>zdw rfl (dep 2 182 _ Zk Zk rfl) (cX W c) ⟨_,rfl,Zr,rfl⟩
  ·exact Yp sB fun t W r c dep=>Jp rfl (show t.eval (.tmp 7)=Zi 4 from r 7 Zk) ⟨_,rfl,Zr,rfl⟩
  ·refine Qh sB ac (by decide) (by simp) rfl (fun f down U=>?_) (fun t W hz r c dep=>⟨J1 rfl,zdt rfl (dep 3 183 _ Zk Zk rfl) (dep 4 184 _ Zk Zk rfl) zfa ((cA W c).mono fun e w' ⟨⟨u,he,h1⟩,hb⟩=>⟨u,he,u,rfl,hb,h1⟩)⟩);have Y:=J6 down (i:=10) (j:=5) Zk U;have V:=J6 down (i:=18) (j:=10) Zk Y;have aa:=J6 down (i:=19) (j:=18) Zk V;exact⟨aa,by simp[Y,V]⟩
  ·exact Yp sB fun t W r c dep=>zae (by decide) rfl (show t.eval (.tmp 1)=Value.pointer (Zs w.heap.size 0)from r 1 Zk) ⟨_,rfl,Zr,rfl⟩
  ·exact Yp sB fun t W r c dep=>op_loadI rfl (dep 6 186 _ Zk Zk rfl) (cB W c).2.1 ⟨_,rfl,Zr,rfl⟩
  ·exact Yp sB fun t W r c dep=>zai rfl (dep 7 187 _ Zk Zk rfl) sign_enter ((cG W).mono fun e w' ⟨he,hw⟩=>by obtain rfl:=hw;exact⟨_,he,_,rfl,Zr,rfl⟩)
  ·exact Qf (M:=[I]) sB (by decide) (by decide) (by simp) rfl (fun t W hz r c dep=>⟨J1 rfl,zb7 rfl (dep 8 188 _ Zk Zk rfl) ⟨_,rfl,al1 _ _,src1 W I⟩⟩)
  ·refine Qi (q:=5) (s:=9) (Lq:=L0) (M:=[I]) ah ac (by decide) rfl rfl rfl rfl (by simp) (by simp) (by simp;omega) (by simp) Zk Zk Zk Zk (fun f v down U J=>?_);have V:=J6 down (i:=18) (j:=10) Zk U;have aa:=J6 down (i:=19) (j:=18) Zk V;exact⟨aa,by simp[Js,Jw,J,U],by simp[Jk,U],fun x=>⟨by simp[Js,Jw,JT,J,V],by simp[Jk,JT,V]⟩⟩
  ·exact Yp sB fun t W r c dep=>zae (by decide) rfl (show t.eval (.tmp 1)=Value.pointer (Zs w.heap.size 0)from r 1 Zk) ⟨_,rfl,Zr,rfl⟩
  ·exact Yp sB fun t W r c dep=>zd8 rfl (dep 11 191 _ Zk Zk rfl) (cB W c).2.2.2.2.2.2 ⟨_,rfl,Zr,rfl⟩
  ·exact Yp sB fun t W r c dep=>zcv (k:=1) rfl (dep 12 192 _ Zk Zk rfl) rfl (by simp) ⟨_,rfl,Zr,rfl⟩
  ·exact Yp sB fun t W r c dep=>zdw rfl (dep 13 193 _ Zk Zk rfl) (ap W c) ⟨_,rfl,Zr,rfl⟩
  ·exact Yp sB fun t W r c dep=>Jp rfl (show t.eval (.tmp 6)=Zi 3 from r 6 Zk) ⟨_,rfl,Zr,rfl⟩
  ·exact Yp sB fun t W r c dep=>op_addI rfl (dep 15 195 _ Zk Zk rfl) (by omega) (by omega) ⟨_,rfl,Zr,rfl⟩
  ·exact Qf (M:=LT) sB (by decide) (by decide) (by simp) rfl (fun t W hz r c dep=>⟨J1 rfl,zdt rfl (dep 14 194 _ Zk Zk rfl) (dep 16 196 _ Zk Zk rfl) zfa ((aq W c).mono fun e w' ⟨⟨u,he,h1⟩,hb⟩=>⟨u,he,u,rfl,hb,Qb h1,fun g hg=>h1.lt g hg⟩)⟩)
  ·refine Qi (q:=10) (s:=17) (Lq:=(L0++[I])) (M:=LT) ah ac (by decide) rfl rfl rfl rfl (by simp) au (by simp;omega) (by simp) Zk Zk Zk Zk (fun f v down U J=>?_);obtain⟨v5,e5⟩:=Y4.1 (down 10 5 Zk (by rw[J];simp));have aa:=J6 down (i:=19) (j:=18) Zk U;exact⟨aa,by simp[Js,Jw,e5,J,U],by simp[Jk,J,U],fun x=>⟨by simp[Js,Jw,JT,e5,J],by simp[Jk,JT,J]⟩⟩
  ·refine Qj (q:=18) (by decide) (by simp) rfl rfl rfl Zk Zk (fun f v down J=>?_);obtain⟨v10,Y⟩:=Y4.1 (down 18 10 Zk (by rw[J];simp));obtain⟨v5,e5⟩:=Y4.1 (down 10 5 Zk (by rw[Y];simp));simp[Js,Jw,J,e5,Y]
 case fin=>
  intro t W f hz aw r c hf hV hX;have ar:(∃v,f 5=some v)/\(∃v,f 10=some v)/\(∃v,f 18=some v):=⟨⟨_,hf 5 185 Zk⟩,⟨_,hf 10 190 Zk⟩,⟨_,hf 18 198 Zk⟩⟩
  have hL:Jk f L0 [(10,9,[I]),(18,17,LT)]=(L0++[I]++LT):=by
   obtain⟨⟨_,_⟩,⟨_,Y⟩,⟨_,V⟩⟩:=ar;simp[Jk,Y,V]
  obtain⟨ai,_⟩:=hX.2.2 _ (hX.1 _ (hf 19 2 Zk));rw[hL]at ai;have ax:=J3 (ab W c);rw[JZ hz rfl aw r];clear hf hV hX r ar hL cB cX cA ap aq cG sB ah ac ad ab ao;generalize ay:t.tmps.getD 2 undef=v2 at ai;simp only[List.foldl,Option.getD];rw[ay];go_wp2;go_ret;exact⟨⟨_,rfl,by rw[J0 av];exact ai.mono ag.size⟩,bon ag ax⟩
theorem tolds_two (A K N:Int) (I:Int) (S:Zy) (J:Bs) (pt pn:Zo) (nt nn ct cn cp:Nat) (w:Zw) (g o:Nat) (L0:List Bs) (A' K' N':Int) (S':Zy) (qn qe q3:Zo) (n1 c1 n2 c2 n3 c3:Nat) (hp:0<L0.length) (hl:L0.length<=300000) (LT:List Bs) (A2 K2 N2:Int) (S2:Zy) (rn re r3:Zo) (m1 d1 m2 d2 m3 d3:Nat) (au:0<LT.length) (az:LT.length<=300000) (k1:15<=K) (k2:K<=21) (aj:zab K=I) (aA:0<=I) (aB:I<=1000) (aC:(I==3)=false) (ak:signS K=J)
  (a0:w.cell? ⟨g,o,none⟩=some (Zi A')) (a1:w.cell? ⟨g,o+1,none⟩=some (Zi K')) (a2:w.cell? ⟨g,o+2,none⟩=some (Zi N')) (a3:w.cell? ⟨g,o+3,none⟩=some (.string S')) (a4:w.cell? ⟨g,o+4,none⟩=some (.slice qn n1 c1)) (a5:w.cell? ⟨g,o+5,none⟩=some (.slice qe n2 c2)) (a6:w.cell? ⟨g,o+6,none⟩=some (.slice q3 n3 c3))
  (b0:w.cell? ⟨g,o+7,none⟩=some (Zi A2)) (b1:w.cell? ⟨g,o+7+1,none⟩=some (Zi K2)) (b2:w.cell? ⟨g,o+7+2,none⟩=some (Zi N2)) (b3:w.cell? ⟨g,o+7+3,none⟩=some (.string S2)) (b4:w.cell? ⟨g,o+7+4,none⟩=some (.slice rn m1 d1)) (b5:w.cell? ⟨g,o+7+5,none⟩=some (.slice re m2 d2)) (b6:w.cell? ⟨g,o+7+6,none⟩=some (.slice r3 m3 d3))
  (CL:∀W,ZB w W->Leaves 149 #[.agg #[Zi A',Zi K',Zi N',.string S',.slice qn n1 c1,.slice qe n2 c2,.slice q3 n3 c3],Zi I] W L0)
  (al:∀W,ZB w W->Leaves 149 #[.agg #[Zi A2,Zi K2,Zi N2,.string S2,.slice rn m1 d1,.slice re m2 d2,.slice r3 m3 d3],Zi (I+1)] W LT) :
  zcu A K N S pt pn (Zs g o) nt nn 2 ct cn cp w (L0++[J]++LT):=by
 have hg:=J2 a0;obtain⟨L,ae⟩:=Ze (L0++[J]++LT)
 rw[<-ae];have av:=J3 ae;clear ae;have LV:ZH (∀W,Zg 151 #[Zi K] W fun e w'=>e=.returned (Zi I)/\W=w'):=fun W=>by rw[<-aj];exact zjo K W (by omega) k2
 have cG:∀W,Zg 152 #[Zi K] W fun e w'=>e=.returned (.string ⟨J.toArray⟩)/\W=w':=fun W=>by rw[<-ak];exact rsign_any K W k1 k2
 have aD:(K==1)=false:=Y3.2 (by omega);have aE:(K==2)=false:=Y3.2 (by omega);have aF:(K==3)=false:=Y3.2 (by omega);have aG:(K==4)=false:=Y3.2 (by omega);have aH:(K==5)=false:=Y3.2 (by omega);have aI:(K==6)=false:=Y3.2 (by omega);have aJ:(K==7)=false:=Y3.2 (by omega);have aK:(K==8)=false:=Y3.2 (by omega);have aL:(K==9)=false:=Y3.2 (by omega);have aM:(K==10)=false:=Y3.2 (by omega);have aN:(K==11)=false:=Y3.2 (by omega);have aO:(K==12)=false:=Y3.2 (by omega);have aP:(K==13)=false:=Y3.2 (by omega);have aQ:(K==14)=false:=Y3.2 (by omega);obtain⟨w1,af⟩:=Ze (w.alloc (zad A K N S pt pn (Zs g o) nt nn 2 ct cn cp))
 have am:=J3 af;have ag:ZB w w1:=by rw[af];exact al1 _ _
 have an:∀W,ZB w1 W->_:=fun W (h:ZB w1 W)=>Jx (w:=w) (A:=A) (K:=K) (N:=N) (S:=S) (pt:=pt) (pn:=pn) (pp:=some ⟨g,o,none⟩) (nt:=nt) (nn:=nn) (np:=2) (ct:=ct) (cn:=cn) (cp:=cp) (wr:=W) (by rw[<-J0 am];exact h)
 obtain⟨B,ab,ao,sB,ah,ac⟩:=Zx w1
 have ad:∀W,B W->ZB w W:=fun W h=>bon ag (ab W h)
 have cB:∀W,B W->_:=fun W h=>an W (ab W h)
 have G:∀W,B W->∀i v,w.cell? ⟨g,i,none⟩=some v->W.cell? ⟨g,i,none⟩=some v:=fun W h i v e=>((ad W h).cell (p:=⟨g,_,none⟩) hg).trans e
 have cX:∀W,B W->ZK7 W g o (Zi A') (Zi K') (Zi N') (.string S') (.slice qn n1 c1) (.slice qe n2 c2) (.slice q3 n3 c3):=fun W h=>⟨G W h _ _ a0,G W h _ _ a1,G W h _ _ a2,G W h _ _ a3,G W h _ _ a4,G W h _ _ a5,G W h _ _ a6⟩
 have ap:∀W,B W->W.cell? ⟨g,o+7,none⟩=some (Zi A2)/\W.cell? ⟨g,o+7+1,none⟩=some (Zi K2)/\W.cell? ⟨g,o+7+2,none⟩=some (Zi N2)/\W.cell? ⟨g,o+7+3,none⟩=some (.string S2)/\W.cell? ⟨g,o+7+4,none⟩=some (.slice rn m1 d1)/\W.cell? ⟨g,o+7+5,none⟩=some (.slice re m2 d2)/\W.cell? ⟨g,o+7+6,none⟩=some (.slice r3 m3 d3):=fun W h=>⟨G W h _ _ b0,G W h _ _ b1,G W h _ _ b2,G W h _ _ b3,G W h _ _ b4,G W h _ _ b5,G W h _ _ b6⟩
 have cA:∀W,B W->Leaves 149 #[.agg #[Zi A',Zi K',Zi N',.string S',.slice qn n1 c1,.slice qe n2 c2,.slice q3 n3 c3],Zi I] W L0:=fun W h=>CL W (ad W h)
 have aq:∀W,B W->Leaves 149 #[.agg #[Zi A2,Zi K2,Zi N2,.string S2,.slice rn m1 d1,.slice re m2 d2,.slice r3 m3 d3],Zi (I+1)] W LT:=fun W h=>al W (ad W h)
 clear CL al G a0 a1 a2 a3 a4 a5 a6 b0 b1 b2 b3 b4 b5 b6 an af aj ak;go_enter Tryz.func116,Tryz.ntmps116;go_wp2_with fail;refine(LV _).mono ?_;rintro _ w9 ⟨rfl,rfl⟩;go_wp2_with fail;rw[<-J0 am];refine JL (n:=199) Zk Zk Zk rfl B (VP (v48 w.heap.size g o (.slice (Zs g o) 2 cp) (.agg #[Zi A',Zi K',Zi N',.string S',.slice qn n1 c1,.slice qe n2 c2,.slice q3 n3 c3]) (.agg #[Zi A2,Zi K2,Zi N2,.string S2,.slice rn m1 d1,.slice re m2 d2,.slice r3 m3 d3]) I I K ⟨J.toArray⟩)) (XCh w1.heap.size 5 19 none L0 [(10,9,[J]),(18,17,LT)])
  (ao _ (Jb Zr)) (Qd (fun v hv=>by cases hv)) ?each ?fin
 case each=>
  refine⟨?_,?_,?_,?_,?_,?_,?_,?_,?_,?_,?_,?_,?_,?_,?_,?_,?_,?_,?_,?_,trivial⟩
  ·exact Yp sB fun t W r c dep=>zae (by decide) rfl (show t.eval (.tmp 1)=Value.pointer (Zs w.heap.size 0)from r 1 Zk) ⟨_,rfl,Zr,rfl⟩
  ·exact Yp sB fun t W r c dep=>zd8 rfl (dep 0 180 _ Zk Zk rfl) (cB W c).2.2.2.2.2.2 ⟨_,rfl,Zr,rfl⟩
  ·exact Yp sB fun t W r c dep=>zcv (k:=0) rfl (dep 1 181 _ Zk Zk rfl) rfl (by simp) ⟨_,rfl,Zr,rfl⟩
  ·exact Yp sB fun t W r c dep=>zdw rfl (dep 2 182 _ Zk Zk rfl) (cX W c) ⟨_,rfl,Zr,rfl⟩
  ·exact Yp sB fun t W r c dep=>Jp rfl (show t.eval (.tmp 7)=Zi I from r 7 Zk) ⟨_,rfl,Zr,rfl⟩
  ·refine Qh sB ac (by decide) (by simp) rfl (fun f down V=>?_) (fun t W hz r c dep=>⟨J1 rfl,zdt rfl (dep 3 183 _ Zk Zk rfl) (dep 4 184 _ Zk Zk rfl) zfa ((cA W c).mono fun e w' ⟨⟨u,he,h1⟩,hb⟩=>⟨u,he,u,rfl,hb,h1⟩)⟩);have Z:=J6 down (i:=10) (j:=5) Zk V;have Y:=J6 down (i:=18) (j:=10) Zk Z;have aa:=J6 down (i:=19) (j:=18) Zk Y;exact⟨aa,by simp[Z,Y]⟩
  ·exact Yp sB fun t W r c dep=>zae (by decide) rfl (show t.eval (.tmp 1)=Value.pointer (Zs w.heap.size 0)from r 1 Zk) ⟨_,rfl,Zr,rfl⟩
  ·exact Yp sB fun t W r c dep=>op_loadI rfl (dep 6 186 _ Zk Zk rfl) (cB W c).2.1 ⟨_,rfl,Zr,rfl⟩
  ·exact Yp sB fun t W r c dep=>zai rfl (dep 7 187 _ Zk Zk rfl) sign_enter ((cG W).mono fun e w' ⟨he,hw⟩=>by obtain rfl:=hw;exact⟨_,he,_,rfl,Zr,rfl⟩)
  ·exact Qf (M:=[J]) sB (by decide) (by decide) (by simp) rfl (fun t W hz r c dep=>⟨J1 rfl,zb7 rfl (dep 8 188 _ Zk Zk rfl) ⟨_,rfl,al1 _ _,src1 W J⟩⟩)
  ·refine Qi (q:=5) (s:=9) (Lq:=L0) (M:=[J]) ah ac (by decide) rfl rfl rfl rfl (by simp) (by simp) (by simp;omega) (by simp) Zk Zk Zk Zk (fun f v down V U=>?_);have Y:=J6 down (i:=18) (j:=10) Zk V;have aa:=J6 down (i:=19) (j:=18) Zk Y;exact⟨aa,by simp[Js,Jw,U,V],by simp[Jk,V],fun x=>⟨by simp[Js,Jw,JT,U,Y],by simp[Jk,JT,Y]⟩⟩
  ·exact Yp sB fun t W r c dep=>zae (by decide) rfl (show t.eval (.tmp 1)=Value.pointer (Zs w.heap.size 0)from r 1 Zk) ⟨_,rfl,Zr,rfl⟩
  ·exact Yp sB fun t W r c dep=>zd8 rfl (dep 11 191 _ Zk Zk rfl) (cB W c).2.2.2.2.2.2 ⟨_,rfl,Zr,rfl⟩
  ·exact Yp sB fun t W r c dep=>zcv (k:=1) rfl (dep 12 192 _ Zk Zk rfl) rfl (by simp) ⟨_,rfl,Zr,rfl⟩
  ·exact Yp sB fun t W r c dep=>zdw rfl (dep 13 193 _ Zk Zk rfl) (ap W c) ⟨_,rfl,Zr,rfl⟩
  ·exact Yp sB fun t W r c dep=>Jp rfl (show t.eval (.tmp 6)=Zi I from r 6 Zk) ⟨_,rfl,Zr,rfl⟩
  ·exact Yp sB fun t W r c dep=>op_addI rfl (dep 15 195 _ Zk Zk rfl) (by omega) (by omega) ⟨_,rfl,Zr,rfl⟩
  ·exact Qf (M:=LT) sB (by decide) (by decide) (by simp) rfl (fun t W hz r c dep=>⟨J1 rfl,zdt rfl (dep 14 194 _ Zk Zk rfl) (dep 16 196 _ Zk Zk rfl) zfa ((aq W c).mono fun e w' ⟨⟨u,he,h1⟩,hb⟩=>⟨u,he,u,rfl,hb,Qb h1,fun g hg=>h1.lt g hg⟩)⟩)
  ·refine Qi (q:=10) (s:=17) (Lq:=(L0++[J])) (M:=LT) ah ac (by decide) rfl rfl rfl rfl (by simp) au (by simp;omega) (by simp) Zk Zk Zk Zk (fun f v down V U=>?_);obtain⟨v5,e5⟩:=Y4.1 (down 10 5 Zk (by rw[U];simp));have aa:=J6 down (i:=19) (j:=18) Zk V;exact⟨aa,by simp[Js,Jw,e5,U,V],by simp[Jk,U,V],fun x=>⟨by simp[Js,Jw,JT,e5,U],by simp[Jk,JT,U]⟩⟩
  ·refine Qj (q:=18) (by decide) (by simp) rfl rfl rfl Zk Zk (fun f v down U=>?_);obtain⟨v10,Z⟩:=Y4.1 (down 18 10 Zk (by rw[U];simp));obtain⟨v5,e5⟩:=Y4.1 (down 10 5 Zk (by rw[Z];simp));simp[Js,Jw,U,e5,Z]
 case fin=>
  intro t W f hz aw r c hf hV hX;have ar:(∃v,f 5=some v)/\(∃v,f 10=some v)/\(∃v,f 18=some v):=⟨⟨_,hf 5 185 Zk⟩,⟨_,hf 10 190 Zk⟩,⟨_,hf 18 198 Zk⟩⟩
  have hL:Jk f L0 [(10,9,[J]),(18,17,LT)]=(L0++[J]++LT):=by
   obtain⟨⟨_,_⟩,⟨_,Z⟩,⟨_,Y⟩⟩:=ar;simp[Jk,Z,Y]
  obtain⟨ai,_⟩:=hX.2.2 _ (hX.1 _ (hf 19 2 Zk));rw[hL]at ai;have ax:=J3 (ab W c);rw[JZ hz rfl aw r];clear hf hV hX r ar hL cB cX cA ap aq cG sB ah ac ad ab ao;generalize ay:t.tmps.getD 2 undef=v2 at ai;simp only[List.foldl,Option.getD];rw[ay];go_wp2;go_ret;exact⟨⟨_,rfl,by rw[J0 av];exact ai.mono ag.size⟩,bon ag ax⟩
end Go.Proofs.YtdcbglnhhbmpgaaGreatDoor
