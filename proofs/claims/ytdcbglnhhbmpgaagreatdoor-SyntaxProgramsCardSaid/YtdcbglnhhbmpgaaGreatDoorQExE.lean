import Derived.Test.YtdcbglnhhbmpgaaGreatDoorQExTwo
set_option maxHeartbeats 1500000
set_option maxRecDepth 100000
namespace Go.Proofs.YtdcbglnhhbmpgaaGreatDoor
open Go Go.RowKit Lx
theorem ExPart.first {w0:Zw} {b:Nat} {T:TypeId} {pp:Zo} {K:Int} {tk:List Tok} (h:ExPart w0 b T pp 0 K tk) :
  ∃(g o:Nat) (A N:Int) (S:Zy) (c j r:Zo) (s t u x G c3:Nat),pp=some ⟨g,o,none⟩/\XPuts w0 b T A K N S c j r s t u x G c3 tk/\∀V:Zw,ZB w0 V->ZK7 V g o (Zi A) (Zi K) (Zi N) (.string S) (.slice c s x) (.slice j t G) (.slice r u c3):=by
 obtain⟨g,o,A,N,S,c,j,r,s,t,u,x,G,c3,rfl,a0,I,a2,a3,a4,a5,J,wt⟩:=h;exact⟨g,o,A,N,S,c,j,r,s,t,u,x,G,c3,rfl,wt,fun V h=>⟨by simpa using(h.cell (p:=⟨g,_,none⟩) (J2 a0)).trans a0,by simpa using(h.cell (p:=⟨g,_,none⟩) (J2 I)).trans I,by simpa using(h.cell (p:=⟨g,_,none⟩) (J2 a2)).trans a2,by simpa using(h.cell (p:=⟨g,_,none⟩) (J2 a3)).trans a3,by simpa using(h.cell (p:=⟨g,_,none⟩) (J2 a4)).trans a4,by simpa using(h.cell (p:=⟨g,_,none⟩) (J2 a5)).trans a5,by simpa using(h.cell (p:=⟨g,_,none⟩) (J2 J)).trans J⟩⟩
theorem TyPart.first {w0:Zw} {b:Nat} {T:TypeId} {F:FuncId} {pp:Zo} {tk:List Tok} (h:TyPart w0 b T F pp 0 tk) :
  ∃(g o:Nat) (K:Int) (S:Zy) (c j r:Zo) (s t u x G c3:Nat),pp=some ⟨g,o,none⟩/\Puts w0 b T (fun _=>True) F #[.pointer (Zs b 0),.agg #[Zi K,.string S,.slice c s x,.slice j t G,.slice r u c3]] tk/\∀V:Zw,ZB w0 V->ZK5 V g o (Zi K) (.string S) (.slice c s x) (.slice j t G) (.slice r u c3):=by
 obtain⟨g,o,K,S,c,j,r,s,t,u,x,G,c3,rfl,a0,I,a2,a3,a4,wt⟩:=h;exact⟨g,o,K,S,c,j,r,s,t,u,x,G,c3,rfl,wt,fun V h=>⟨by simpa using(h.cell (p:=⟨g,_,none⟩) (J2 a0)).trans a0,by simpa using(h.cell (p:=⟨g,_,none⟩) (J2 I)).trans I,by simpa using(h.cell (p:=⟨g,_,none⟩) (J2 a2)).trans a2,by simpa using(h.cell (p:=⟨g,_,none⟩) (J2 a3)).trans a3,by simpa using(h.cell (p:=⟨g,_,none⟩) (J2 a4)).trans a4⟩⟩
theorem ExPart.tail {w0:Zw} {b:Nat} {T:TypeId} {g o k:Nat} {K:Int} {tk:List Tok} (h:ExPart w0 b T (Zs g o) (k+1) K tk):ExPart w0 b T (Zs g (o+7)) k K tk:=by
 obtain⟨c,j,A,N,S,r,s,t,u,x,G,I,J,c3,e,a0,L,a2,a3,a4,a5,M,wt⟩:=h;obtain⟨rfl,rfl⟩:g=c/\o=j:=by simpa using e
 have e:∀i,o+(k+1)*7+i=o+7+k*7+i:=fun i=>by omega
 refine⟨g,o+7,A,N,S,r,s,t,u,x,G,I,J,c3,rfl,?_,?_,?_,?_,?_,?_,?_,wt⟩
 ·have:=e 0;simp only[Xs]at this;rw[<-this];exact a0
 ·rw[<-e 1];exact L
 ·rw[<-e 2];exact a2
 ·rw[<-e 3];exact a3
 ·rw[<-e 4];exact a4
 ·rw[<-e 5];exact a5
 ·rw[<-e 6];exact M
theorem post_to (w0:Zw) (b:Nat) (T:TypeId) (A N:Int) (S:Bs) (pt pn pp:Zo) (n ct cn cp:Nat) (r:Int) (s t:List Tok) (u:ExPart w0 b T pp 0 r s) (G:TyPart w0 b T 50 pt 0 t) :
  Puts w0 b T (fun _=>True) 92 #[.pointer (Zs b 0),.agg #[Zi A,Zi 12,Zi N,.string ⟨S.toArray⟩,.slice pt 1 ct,.slice pn n cn,.slice pp 1 cp]] (JM r 7 s++tW [116,111]::t):=by
 intro ts w hw I J _;obtain⟨g,o,A0,N0,S0,p1,p2,p3,n1,n2,n3,c1,c2,c3,rfl,L,M⟩:=u.first;obtain⟨gt,ot,Kt,St,q1,q2,q3,k1,k2,k3,d1,d2,d3,rfl,U,V⟩:=G.first;obtain⟨c,h⟩:=zh3 hw I J #[Zi A,Zi 12,Zi N,.string ⟨S.toArray⟩,.slice (Zs gt ot) 1 ct,.slice pn n cn,.slice (Zs g o) 1 cp] 62 (by decide);have FT:=J3 V;have Y:=J3 ((zd6 w0 b T _ _ _ _ _ _ _ _ _ _ _ _ _ 7 _ L).ok (fun _ _=>trivial) h c);have Z:=J3 (JH w0 b T [116,111]);have P2:=J3 U;have j:=J3 h;obtain⟨y0,y1,y2,y3,y4,y5,y6⟩:=M _ c.2.2.1;clear c h hw J I L U M V u G;go_enter Tryz.func92,Tryz.ntmps92;go_wp2_with (first
  | (go_at_call 93;refine Y.mono ?_;clear Y;rintro x wa ⟨rfl,ok⟩;have m:=xBox.cells ok.2.2.2.2.2;obtain⟨m0,m1,m2,m3,m4,m5,m6⟩:=m;have aa:=J3 ok;clear ok)
  | (go_at_call 65;refine(Z.ok (fun _ _=>trivial) j aa).mono ?_;clear Z;rintro x wb ⟨rfl,ok⟩;have m:=xBox.cells ok.2.2.2.2.2;obtain⟨m0,m1,m2,m3,m4,m5,m6⟩:=m;obtain⟨z0,z1,z2,z3,z4⟩:=FT _ ok.2.2.1;have ab:=J3 ok;clear ok))
 go_region_with (go_at_call 50;refine(P2.ok (fun _ _=>trivial) j (ab.drew j)).mono ?_;clear P2;rintro x wc ⟨rfl,ok⟩)
 all_goals
  go_wp2;exact Yd (v:=.tuple #[]) (by simp[results,Tryz.results92,go_sem]) rfl (ok.fin (by rw[J8,Jq];rfl))
theorem post_field (w0:Zw) (b:Nat) (T:TypeId) (A N:Int) (S:Bs) (pt pn pp:Zo) (nt n ct cn cp:Nat) (r:Int) (s:List Tok) (t:ExPart w0 b T pp 0 r s) :
  Puts w0 b T (fun _=>True) 92 #[.pointer (Zs b 0),.agg #[Zi A,Zi 9,Zi N,.string ⟨S.toArray⟩,.slice pt nt ct,.slice pn n cn,.slice pp 1 cp]] (JM r 7 s++[tS [46],tN S]):=by
 intro Z w hw u G _;obtain⟨g,o,A0,N0,S0,p1,p2,p3,n1,n2,n3,c1,c2,c3,rfl,I,J⟩:=t.first;obtain⟨c,h⟩:=zh3 hw u G #[Zi A,Zi 9,Zi N,.string ⟨S.toArray⟩,.slice pt nt ct,.slice pn n cn,.slice (Zs g o) 1 cp] 62 (by decide);have L:=J3 ((zd6 w0 b T _ _ _ _ _ _ _ _ _ _ _ _ _ 7 _ I).ok (fun _ _=>trivial) h c);have M:=J3 (JU w0 b T [46]);have U:=J3 (zct w0 b T S);have j:=J3 h;obtain⟨y0,y1,y2,y3,y4,y5,y6⟩:=J _ c.2.2.1;clear c h hw G u I J t;go_enter Tryz.func92,Tryz.ntmps92;go_wp2_with (first
  | (go_at_call 93;refine L.mono ?_;clear L;rintro x wa ⟨rfl,ok⟩;have m:=xBox.cells ok.2.2.2.2.2;obtain⟨m0,m1,m2,m3,m4,m5,m6⟩:=m;have V:=J3 ok;clear ok)
  | (go_at_call 67;refine(M.ok (fun _ _=>trivial) j V).mono ?_;clear M;rintro x wb ⟨rfl,ok⟩;have m:=xBox.cells ok.2.2.2.2.2;obtain⟨m0,m1,m2,m3,m4,m5,m6⟩:=m;have Y:=J3 ok;clear ok))
 go_region_with (go_at_call 75;refine(U.ok (fun _ _=>trivial) j (Y.drew j)).mono ?_;clear U;rintro x wc ⟨rfl,ok⟩)
 all_goals
  go_wp2;exact Yd (v:=.tuple #[]) (by simp[results,Tryz.results92,go_sem]) rfl (ok.fin (by rw[J8];rfl))
theorem lit11_any (w0:Zw) (b:Nat) (T:TypeId) (j bx:Nat) (A K N:Int) (S:Zy) (pt pn pp:Zo) (nt q ct cn cp k:Nat) (hk:k<q) (_hq:q<=1000000) (nm:Bs) (t:Int) (tk:List Tok)
  (hN:∃g o,pn=some ⟨g,o,none⟩/\w0.cell? ⟨g,o+k,none⟩=some (.string ⟨nm.toArray⟩)) (hP:ExPart w0 b T pp k t tk) (s:Stays w0 b (fun V=>V.heap[j]?=some (xwBox b)/\V.heap[bx]?=some (xBox A K N S pt pn pp nt q q ct cn cp))) :
  Puts w0 b T (fun V=>V.heap[j]?=some (xwBox b)/\V.heap[bx]?=some (xBox A K N S pt pn pp nt q q ct cn cp)) 158 #[Zi k,.pointer (Zs j 0),.pointer (Zs bx 0)] (tN nm::tS [58]::JM t 1 tk):=by
 intro ts w hw U u c;obtain⟨r,on,rfl,G⟩:=hN;obtain⟨g,o,A',N',S',p1,p2,p3,n1,n2,n3,c1,c2,c3,rfl,a0,J,a2,a3,a4,a5,L,wt⟩:=hP;have FF:ZH (∀V:Zw,ZB w0 V->(V.heap[j]?=some (xwBox b)/\V.heap[bx]?=some (xBox A K N S pt (Zs r on) (Zs g o) nt q q ct cn cp))->V.cell? ⟨j,0,none⟩=some (.pointer (Zs b 0))/\V.cell? ⟨bx,5,none⟩=some (.slice (Zs r on) q cn)/\V.cell? ⟨bx,6,none⟩=some (.slice (Zs g o) q cp)/\V.cell? ⟨r,on+k,none⟩=some (.string ⟨nm.toArray⟩) /\
   ZK7 V g (o+k*7) (Zi A') (Zi t) (Zi N') (.string S') (.slice p1 n1 c1) (.slice p2 n2 c2) (.slice p3 n3 c3)):=fun V h c=>
  ⟨by rw[Y0 c.1];rfl,(xBox.cells c.2).2.2.2.2.2.1,(xBox.cells c.2).2.2.2.2.2.2,(h.cell (p:=⟨r,_,none⟩) (J2 G)).trans G,(h.cell (p:=⟨g,_,none⟩) (J2 a0)).trans a0,(h.cell (p:=⟨g,_,none⟩) (J2 J)).trans J,(h.cell (p:=⟨g,_,none⟩) (J2 a2)).trans a2,(h.cell (p:=⟨g,_,none⟩) (J2 a3)).trans a3,(h.cell (p:=⟨g,_,none⟩) (J2 a4)).trans a4,(h.cell (p:=⟨g,_,none⟩) (J2 a5)).trans a5,(h.cell (p:=⟨g,_,none⟩) (J2 L)).trans L⟩
 have ac:(k:Int)<(q:Int):=by omega
 have Y:=Ok.of (I:=fun V=>V.heap[j]?=some (xwBox b)/\V.heap[bx]?=some (xBox A K N S pt (Zs r on) (Zs g o) nt q q ct cn cp)) hw U u c;obtain⟨f0,f1,f2,f3,m0,m1,m2,m3,m4,m5,m6⟩:=FF w u c;have Z:=J3 ((zct w0 b T nm).ok (fun _ _=>trivial) s (Y.drew s));have P1:=J3 (JU w0 b T [58]);have P2:=J3 (zd6 w0 b T _ _ _ _ _ _ _ _ _ _ _ _ _ 1 _ wt);have M:=J3 s;clear Y s hw u U c wt G a0 J a2 a3 a4 a5 L;go_enter Tryz.func158,Tryz.ntmps158;go_wp2
 go_region_with (go_at_call 75;refine Z.mono ?_;clear Z;rintro x wa ⟨rfl,ok⟩;obtain⟨f0,f1,f2,f3,m0,m1,m2,m3,m4,m5,m6⟩:=FF wa ok.2.2.1 ok.2.2.2.2.2;have aa:=J3 ok;clear ok)
 all_goals
  go_wp2_with (go_at_call 67;refine(P1.ok (fun _ _=>trivial) M aa).mono ?_;clear P1;rintro x wb ⟨rfl,ok⟩;obtain⟨f0,f1,f2,f3,m0,m1,m2,m3,m4,m5,m6⟩:=FF wb ok.2.2.1 ok.2.2.2.2.2;have ab:=J3 ok;clear ok)
  go_region_with (go_at_call 93;refine(P2.ok (fun _ _=>trivial) M (ab.drew M)).mono ?_;clear P2;rintro x wc ⟨rfl,ok⟩)
  all_goals
   go_wp2;exact Yd (v:=.tuple #[]) (by simp[results,Tryz.results158,go_sem]) rfl (ok.fin rfl)
theorem lit_any (w0:Zw) (b:Nat) (T:TypeId) (A K N:Int) (S:Bs) (pt pn pp:Zo) (nt q ct cn cp:Nat) (J:q<=1000000) (nm:Nat->Bs) (Ks:Nat->Int) (tk:Nat->List Tok)
  (r:∀k,k<q->∃g o,pn=some ⟨g,o,none⟩/\w0.cell? ⟨g,o+k,none⟩=some (.string ⟨(nm k).toArray⟩)) (s:∀k,k<q->ExPart w0 b T pp k (Ks k) (tk k)) :
  Puts w0 b T (fun _=>True) 136 #[.pointer (Zs b 0),.agg #[Zi A,Zi K,Zi N,.string ⟨S.toArray⟩,.slice pt nt ct,.slice pn q cn,.slice pp q cp]] (litT S q nm (fun k=>JM (Ks k) 1 (tk k))):=by
 intro ts w hw L t _;obtain⟨u,c⟩:=boxes hw L t 136 #[Zi A,Zi K,Zi N,.string ⟨S.toArray⟩,.slice pt nt ct,.slice pn q cn,.slice pp q cp] 62 (by decide) (by decide);have G:=fun(k:Nat) (I:k<q)=>lit11_any w0 b T w.heap.size (w.heap.size+1) A K N ⟨S.toArray⟩ pt pn pp nt q ct cn cp k I J (nm k) (Ks k) (tk k) (r k I) (s k I) c
 have M:Puts w0 b T (fun V=>V.heap[w.heap.size]?=some (xwBox b)/\V.heap[w.heap.size+1]?=some (xBox A K N ⟨S.toArray⟩ pt pn pp nt q q ct cn cp)) 157 #[.pointer (Zs w.heap.size 0),.pointer (Zs (w.heap.size+1) 0)] ((List.range q).flatMap (zar fun k=>tN (nm k)::tS [58]::JM (Ks k) 1 (tk k))):=by
  intro ts w1 U aa Y j;have d0:w1.cell? ⟨w.heap.size,0,none⟩=some (.pointer (Zs b 0)):=by rw[Y0 j.1];rfl
  have d5:=(xBox.cells j.2).2.2.2.2.2.1;have Z:=J3 ((zgj w0 b T _ c _ (fun _ _=>by kernel_rfl) _ _ q J _ G).drew U aa Y (c.drew j));clear j u c s r hw t U Y G;go_enter Tryz.func157,Tryz.ntmps157;go_wp2
  go_region_with (go_at_call 119;refine Z.mono ?_;clear Z;rintro x wb ⟨rfl,ab,ac,ad⟩)
  all_goals
   go_wp2;exact Yd (v:=.tuple #[]) (by simp[results,Tryz.results157,go_sem]) rfl ⟨rfl,ab,ac,ad⟩
 have P0:=J3 ((zdq w0 b T S).ok (fun _ _=>trivial) c (u.drew c));have P1:=J3 (zcc w0 b T _ c _ (fun _ _=>by kernel_rfl) _ _ [123] [125] _ M);have HS:=J3 c;clear u c hw t L s r G M;go_enter Tryz.func136,Tryz.ntmps136;go_wp2
 go_region_with (go_at_call 66;refine P0.mono ?_;clear P0;rintro x wa ⟨rfl,ok⟩;have f0:wa.cell? ⟨w.heap.size,0,none⟩=some (.pointer (Zs b 0)):=(by rw[Y0 ok.2.2.2.2.2.1];rfl);have ae:=J3 ok;clear ok)
 all_goals
  go_wp2_with (go_at_call 81;refine(P1.ok (fun _ h=>h) HS ae).mono ?_;clear P1;rintro x wb ⟨rfl,ok⟩);exact Yd (v:=.tuple #[]) (by simp[results,Tryz.results136,go_sem]) rfl (ok.fin rfl)
end Go.Proofs.YtdcbglnhhbmpgaaGreatDoor
namespace Go.Proofs.YtdcbglnhhbmpgaaGreatDoor
open Go Go.RowKit Lx
theorem prim1 (w0:Zw) (b:Nat) (T:TypeId) (A N:Int) (S:Bs) (pt pn pp:Zo) (nt n q ct cn cp:Nat) :
  Puts w0 b T (fun _=>True) 94 #[.pointer (Zs b 0),.agg #[Zi A,Zi 1,Zi N,.string ⟨S.toArray⟩,.slice pt nt ct,.slice pn n cn,.slice pp q cp]] ([(0,4,[],N)]):=by
 intro s w hw g h _;obtain⟨j,c⟩:=zh3 hw g h #[Zi A,Zi 1,Zi N,.string ⟨S.toArray⟩,.slice pt nt ct,.slice pn n cn,.slice pp q cp] 62 (by decide);have t:=J3 c;have r:=J3 ((number_puts w0 b T N).ok (fun _ _=>trivial) c (j.drew c));clear j c hw h g;go_enter Tryz.func94,Tryz.ntmps94;go_wp2
 go_region_with (go_at_call 133;refine r.mono ?_;clear r;rintro x u ⟨rfl,ok⟩)
 all_goals
  go_wp2;exact Yd (v:=.tuple #[]) (by simp[results,Tryz.results94,go_sem]) rfl (ok.fin rfl)
theorem prim2 (w0:Zw) (b:Nat) (T:TypeId) (A N:Int) (S:Bs) (pt pn pp:Zo) (nt n q ct cn cp:Nat) :
  Puts w0 b T (fun _=>True) 94 #[.pointer (Zs b 0),.agg #[Zi A,Zi 2,Zi N,.string ⟨S.toArray⟩,.slice pt nt ct,.slice pn n cn,.slice pp q cp]] ([(0,5,S,0)]):=by
 intro s w hw g h _;obtain⟨j,c⟩:=zh3 hw g h #[Zi A,Zi 2,Zi N,.string ⟨S.toArray⟩,.slice pt nt ct,.slice pn n cn,.slice pp q cp] 62 (by decide);have t:=J3 c;have r:=J3 ((quoted_puts w0 b T S).ok (fun _ _=>trivial) c (j.drew c));clear j c hw h g;go_enter Tryz.func94,Tryz.ntmps94;go_wp2
 go_region_with (go_at_call 134;refine r.mono ?_;clear r;rintro x u ⟨rfl,ok⟩)
 all_goals
  go_wp2;exact Yd (v:=.tuple #[]) (by simp[results,Tryz.results94,go_sem]) rfl (ok.fin rfl)
theorem prim3 (w0:Zw) (b:Nat) (T:TypeId) (A N:Int) (S:Bs) (pt pn pp:Zo) (nt n q ct cn cp:Nat) :
  Puts w0 b T (fun _=>True) 94 #[.pointer (Zs b 0),.agg #[Zi A,Zi 3,Zi N,.string ⟨S.toArray⟩,.slice pt nt ct,.slice pn n cn,.slice pp q cp]] ([if N=0 then tW [102,97,108,115,101]else tW [116,114,117,101]]):=by
 intro u w hw h j _;obtain⟨r,c⟩:=zh3 hw h j #[Zi A,Zi 3,Zi N,.string ⟨S.toArray⟩,.slice pt nt ct,.slice pn n cn,.slice pp q cp] 62 (by decide);have G:=J3 c;have g:=bool_any w0 b T N;obtain⟨tk,s⟩:=Ze ([if N=0 then tW [102,97,108,115,101]else tW [116,114,117,101]])
 rw[<-s]at g ⊢;have t:=J3 (g.ok (fun _ _=>trivial) c r);clear s g;clear r c hw j h;go_enter Tryz.func94,Tryz.ntmps94;go_wp2_with (go_at_call 135;refine t.mono ?_;clear t;rintro x I ⟨rfl,ok⟩);exact Yd (v:=.tuple #[]) (by simp[results,Tryz.results94,go_sem]) rfl (ok.fin rfl)
theorem prim4 (w0:Zw) (b:Nat) (T:TypeId) (A N:Int) (S:Bs) (pt pn pp:Zo) (nt n q ct cn cp:Nat) :
  Puts w0 b T (fun _=>True) 94 #[.pointer (Zs b 0),.agg #[Zi A,Zi 4,Zi N,.string ⟨S.toArray⟩,.slice pt nt ct,.slice pn n cn,.slice pp q cp]] ([tN S]):=by
 intro s w hw g h _;obtain⟨j,c⟩:=zh3 hw g h #[Zi A,Zi 4,Zi N,.string ⟨S.toArray⟩,.slice pt nt ct,.slice pn n cn,.slice pp q cp] 62 (by decide);have t:=J3 c;have r:=J3 ((zct w0 b T S).ok (fun _ _=>trivial) c (j.drew c));clear j c hw h g;go_enter Tryz.func94,Tryz.ntmps94;go_wp2
 go_region_with (go_at_call 75;refine r.mono ?_;clear r;rintro x u ⟨rfl,ok⟩)
 all_goals
  go_wp2;exact Yd (v:=.tuple #[]) (by simp[results,Tryz.results94,go_sem]) rfl (ok.fin rfl)
theorem prim5 (w0:Zw) (b:Nat) (T:TypeId) (A N:Int) (S:Bs) (pt pn pp:Zo) (nt n q ct cn cp:Nat) :
  Puts w0 b T (fun _=>True) 94 #[.pointer (Zs b 0),.agg #[Zi A,Zi 5,Zi N,.string ⟨S.toArray⟩,.slice pt nt ct,.slice pn n cn,.slice pp q cp]] ([tW [115,101,108,102]]):=by
 intro s w hw g h _;obtain⟨j,c⟩:=zh3 hw g h #[Zi A,Zi 5,Zi N,.string ⟨S.toArray⟩,.slice pt nt ct,.slice pn n cn,.slice pp q cp] 62 (by decide);have t:=J3 c;have r:=J3 ((JH w0 b T [115,101,108,102]).ok (fun _ _=>trivial) c j);clear j c hw h g;go_enter Tryz.func94,Tryz.ntmps94;go_wp2_with (go_at_call 65;refine r.mono ?_;clear r;rintro x u ⟨rfl,ok⟩);exact Yd (v:=.tuple #[]) (by simp[results,Tryz.results94,go_sem]) rfl (ok.fin rfl)
theorem prim6 (w0:Zw) (b:Nat) (T:TypeId) (A N:Int) (S:Bs) (pt pn pp:Zo) (n q ct cn cp:Nat) (g:List Tok) (h:TyPart w0 b T 50 pt 0 g) :
  Puts w0 b T (fun _=>True) 94 #[.pointer (Zs b 0),.agg #[Zi A,Zi 6,Zi N,.string ⟨S.toArray⟩,.slice pt 1 ct,.slice pn n cn,.slice pp q cp]] (tW [110,105,108]::g):=by
 intro V w hw j r _;obtain⟨gt,L,Y,St,Z,q2,q3,k1,k2,k3,d1,d2,d3,rfl,s,t⟩:=h.first;obtain⟨u,c⟩:=zh3 hw j r #[Zi A,Zi 6,Zi N,.string ⟨S.toArray⟩,.slice (Zs gt L) 1 ct,.slice pn n cn,.slice pp q cp] 62 (by decide);have G:=J3 c;have I:=J3 ((JH w0 b T [110,105,108]).ok (fun _ _=>trivial) c u);have J:=J3 s;have M:=J3 t;clear s t h;clear u c hw r j;go_enter Tryz.func94,Tryz.ntmps94;go_wp2_with (go_at_call 65;refine I.mono ?_;clear I;rintro x wa ⟨rfl,ok⟩;have m:=xBox.cells ok.2.2.2.2.2;obtain⟨m0,m1,m2,m3,m4,m5,m6⟩:=m;obtain⟨z0,z1,z2,z3,z4⟩:=M _ ok.2.2.1;have U:=J3 ok;clear ok)
 go_region_with (go_at_call 50;refine(J.ok (fun _ _=>trivial) G (U.drew G)).mono ?_;clear J;rintro x wc ⟨rfl,ok⟩)
 all_goals
  go_wp2;exact Yd (v:=.tuple #[]) (by simp[results,Tryz.results94,go_sem]) rfl (ok.fin rfl)
theorem prim7 (w0:Zw) (b:Nat) (T:TypeId) (A N:Int) (S:Bs) (pt pn pp:Zo) (nt n q ct cn cp:Nat) (tk:List Tok) (g:Puts w0 b T (fun _=>True) 136 #[.pointer (Zs b 0),.agg #[Zi A,Zi 7,Zi N,.string ⟨S.toArray⟩,.slice pt nt ct,.slice pn n cn,.slice pp q cp]] tk) :
  Puts w0 b T (fun _=>True) 94 #[.pointer (Zs b 0),.agg #[Zi A,Zi 7,Zi N,.string ⟨S.toArray⟩,.slice pt nt ct,.slice pn n cn,.slice pp q cp]] (tk):=by
 intro t w hw h j _;obtain⟨r,c⟩:=zh3 hw h j #[Zi A,Zi 7,Zi N,.string ⟨S.toArray⟩,.slice pt nt ct,.slice pn n cn,.slice pp q cp] 62 (by decide);have u:=J3 c;have s:=J3 ((g).ok (fun _ _=>trivial) c r);clear g r c hw j h;go_enter Tryz.func94,Tryz.ntmps94;go_wp2_with (go_at_call 136;refine s.mono ?_;clear s;rintro x G ⟨rfl,ok⟩);exact Yd (v:=.tuple #[]) (by simp[results,Tryz.results94,go_sem]) rfl (ok.fin rfl)
theorem prim8 (w0:Zw) (b:Nat) (T:TypeId) (A N:Int) (S:Bs) (pt pn pp:Zo) (nt n q ct cn cp:Nat) (tk:List Tok) (g:Puts w0 b T (fun _=>True) 136 #[.pointer (Zs b 0),.agg #[Zi A,Zi 8,Zi N,.string ⟨S.toArray⟩,.slice pt nt ct,.slice pn n cn,.slice pp q cp]] tk) :
  Puts w0 b T (fun _=>True) 94 #[.pointer (Zs b 0),.agg #[Zi A,Zi 8,Zi N,.string ⟨S.toArray⟩,.slice pt nt ct,.slice pn n cn,.slice pp q cp]] (tW [110,101,119]::tk):=by
 intro I w hw h j _;obtain⟨r,c⟩:=zh3 hw h j #[Zi A,Zi 8,Zi N,.string ⟨S.toArray⟩,.slice pt nt ct,.slice pn n cn,.slice pp q cp] 62 (by decide);have u:=J3 c;have s:=J3 ((JH w0 b T [110,101,119]).ok (fun _ _=>trivial) c r);have t:=J3 g;clear g r c hw j h;go_enter Tryz.func94,Tryz.ntmps94;go_wp2_with (first|(go_at_call 65;refine s.mono ?_;clear s;rintro x J ⟨rfl,ok⟩;have m:=xBox.cells ok.2.2.2.2.2;obtain⟨m0,m1,m2,m3,m4,m5,m6⟩:=m;have G:=J3 ok;clear ok)|(go_at_call 136;refine(t.ok (fun _ _=>trivial) u G).mono ?_;clear t;rintro x L ⟨rfl,ok⟩));exact Yd (v:=.tuple #[]) (by simp[results,Tryz.results94,go_sem]) rfl (ok.fin rfl)
theorem post_apply (w0:Zw) (b:Nat) (T:TypeId) (A N:Int) (S:Bs) (pt pn pp:Zo) (nt n q m ct cn cp:Nat) (hm:q=m+1) (hq:q<=1000000) (hc:q<=cp) (Ks:Nat->Int) (tk:Nat->List Tok) (s:∀k,k<q->ExPart w0 b T pp k (Ks k) (tk k)) (Y:Ks 0≠9) :
  Puts w0 b T (fun _=>True) 92 #[.pointer (Zs b 0),.agg #[Zi A,Zi 11,Zi N,.string ⟨S.toArray⟩,.slice pt nt ct,.slice pn n cn,.slice pp q cp]] (JM (Ks 0) 7 (tk 0)++zd3 m (fun k=>JM (Ks (k+1)) 1 (tk (k+1)))):=by
 intro ts w hw J L _;obtain⟨g,o,A0,N0,S0,p1,p2,p3,n1,n2,n3,c1,c2,c3,rfl,M,U⟩:=(s 0 (by omega)).first;obtain⟨t,u⟩:=zh3 hw J L #[Zi A,Zi 11,Zi N,.string ⟨S.toArray⟩,.slice pt nt ct,.slice pn n cn,.slice (Zs g o) q cp] 62 (by decide);have j:=J3 ((zd6 w0 b T _ _ _ _ _ _ _ _ _ _ _ _ _ 7 _ M).ok (fun _ _=>trivial) u t);have r:∀(pl:Zo) (G k:Nat),k=m->(pl=some ⟨g,o+7,none⟩∨m=0)->Puts w0 b T (fun _=>True) 132 #[.pointer (Zs b 0),.slice pl k G] (zd3 m (fun k=>JM (Ks (k+1)) 1 (tk (k+1)))):=fun pl G k Z h=>by
  subst Z;refine args_any w0 b T pl k G (by omega) (fun i=>Ks (i+1)) (fun i=>tk (i+1)) (fun i hi=>?_);rcases h with rfl|h
  ·exact(s (i+1) (by omega)).tail
  ·omega
 have V:=J3 u;have aa:(0:Int)<(q:Int):=by omega
 have ab:(1:Int)<=(q:Int):=by omega
 have ac:1<=q:=by omega
 have ad:(q:Int)<=(cp:Int):=by omega
 have z9:(Ks 0==9)=false:=Y3.2 Y;obtain⟨y0,y1,y2,y3,y4,y5,y6⟩:=U _ t.2.2.1;clear t u hw L J M U s;by_cases ae:cp=1
 ·obtain rfl:q=1:=by omega
  obtain rfl:m=0:=by omega
  subst ae;have c:=J3 (r (Zs g o) 0 0 rfl (.inr rfl));clear r hm aa ab ac ad;go_enter Tryz.func92,Tryz.ntmps92;go_wp2_with (first|(go_at_call 93;refine j.mono ?_;clear j;rintro x wa ⟨rfl,ok⟩;have m:=xBox.cells ok.2.2.2.2.2;obtain⟨m0,m1,m2,m3,m4,m5,m6⟩:=m;have I:=J3 ok;clear ok)|(go_at_call 132;refine(c.ok (fun _ _=>trivial) V I).mono ?_;clear c;rintro x wc ⟨rfl,ok⟩))
  all_goals
   exact Yd (v:=.tuple #[]) (by simp[results,Tryz.results92,go_sem]) rfl (ok.fin (by rw[J8]))
 ·have ag:1<cp:=by omega
  have af:¬(cp:Int)=1:=by omega
  have ah:((cp:Int)==1)=false:=Y3.2 af;have c:=J3 (r (Zs g (o+7)) (cp-1) (q-1) (by omega) (.inl rfl));clear r hm;go_enter Tryz.func92,Tryz.ntmps92;go_wp2_with (first|(go_at_call 93;refine j.mono ?_;clear j;rintro x wa ⟨rfl,ok⟩;have m:=xBox.cells ok.2.2.2.2.2;obtain⟨m0,m1,m2,m3,m4,m5,m6⟩:=m;have I:=J3 ok;clear ok)|(go_at_call 132;refine(c.ok (fun _ _=>trivial) V I).mono ?_;clear c;rintro x wc ⟨rfl,ok⟩))
  all_goals
   exact Yd (v:=.tuple #[]) (by simp[results,Tryz.results92,go_sem]) rfl (ok.fin (by rw[J8]))
theorem post_apply9 (w0:Zw) (b:Nat) (T:TypeId) (A N:Int) (S:Bs) (pt pn pp:Zo) (nt n q m ct cn cp:Nat) (hm:q=m+1) (hq:q<=1000000) (hc:q<=cp) (Ks:Nat->Int) (tk:Nat->List Tok) (s:∀k,k<q->ExPart w0 b T pp k (Ks k) (tk k)) (Y:Ks 0=9) :
  Puts w0 b T (fun _=>True) 92 #[.pointer (Zs b 0),.agg #[Zi A,Zi 11,Zi N,.string ⟨S.toArray⟩,.slice pt nt ct,.slice pn n cn,.slice pp q cp]] (ze9 (tk 0)++zd3 m (fun k=>JM (Ks (k+1)) 1 (tk (k+1)))):=by
 intro ts w hw J L _;obtain⟨g,o,A0,N0,S0,p1,p2,p3,n1,n2,n3,c1,c2,c3,rfl,M,U⟩:=(s 0 (by omega)).first;obtain⟨t,u⟩:=zh3 hw J L #[Zi A,Zi 11,Zi N,.string ⟨S.toArray⟩,.slice pt nt ct,.slice pn n cn,.slice (Zs g o) q cp] 62 (by decide);have c:=J3 ((aside_any w0 b T _ _ _ _ _ _ _ _ _ _ _ _ _ _ M).ok (fun _ _=>trivial) u t);have r:∀(pl:Zo) (G k:Nat),k=m->(pl=some ⟨g,o+7,none⟩∨m=0)->Puts w0 b T (fun _=>True) 132 #[.pointer (Zs b 0),.slice pl k G] (zd3 m (fun k=>JM (Ks (k+1)) 1 (tk (k+1)))):=fun pl G k Z h=>by
  subst Z;refine args_any w0 b T pl k G (by omega) (fun i=>Ks (i+1)) (fun i=>tk (i+1)) (fun i hi=>?_);rcases h with rfl|h
  ·exact(s (i+1) (by omega)).tail
  ·omega
 have V:=J3 u;have aa:(0:Int)<(q:Int):=by omega
 have ab:(1:Int)<=(q:Int):=by omega
 have ac:1<=q:=by omega
 have ad:(q:Int)<=(cp:Int):=by omega
 obtain⟨y0,y1,y2,y3,y4,y5,y6⟩:=U _ t.2.2.1;rw[Y]at y1 c;clear t u hw L J M U s;by_cases ae:cp=1
 ·obtain rfl:q=1:=by omega
  obtain rfl:m=0:=by omega
  subst ae;have j:=J3 (r (Zs g o) 0 0 rfl (.inr rfl));clear r hm aa ab ac ad;go_enter Tryz.func92,Tryz.ntmps92;go_wp2_with (first|(go_at_call 131;refine c.mono ?_;clear c;rintro x wa ⟨rfl,ok⟩;have m:=xBox.cells ok.2.2.2.2.2;obtain⟨m0,m1,m2,m3,m4,m5,m6⟩:=m;have I:=J3 ok;clear ok)|(go_at_call 132;refine(j.ok (fun _ _=>trivial) V I).mono ?_;clear j;rintro x wc ⟨rfl,ok⟩))
  all_goals
   exact Yd (v:=.tuple #[]) (by simp[results,Tryz.results92,go_sem]) rfl (ok.fin (by rw[J8]))
 ·have ag:1<cp:=by omega
  have af:¬(cp:Int)=1:=by omega
  have ah:((cp:Int)==1)=false:=Y3.2 af;have j:=J3 (r (Zs g (o+7)) (cp-1) (q-1) (by omega) (.inl rfl));clear r hm;go_enter Tryz.func92,Tryz.ntmps92;go_wp2_with (first|(go_at_call 131;refine c.mono ?_;clear c;rintro x wa ⟨rfl,ok⟩;have m:=xBox.cells ok.2.2.2.2.2;obtain⟨m0,m1,m2,m3,m4,m5,m6⟩:=m;have I:=J3 ok;clear ok)|(go_at_call 132;refine(j.ok (fun _ _=>trivial) V I).mono ?_;clear j;rintro x wc ⟨rfl,ok⟩))
  all_goals
   exact Yd (v:=.tuple #[]) (by simp[results,Tryz.results92,go_sem]) rfl (ok.fin (by rw[J8]))
theorem post_call (w0:Zw) (b:Nat) (T:TypeId) (A N:Int) (S:Bs) (pt pn pp:Zo) (nt n q m ct cn cp:Nat) (hm:q=m+1) (hq:q<=1000000) (hc:q<=cp) (Ks:Nat->Int) (tk:Nat->List Tok) (G:∀k,k<q->ExPart w0 b T pp k (Ks k) (tk k)) :
  Puts w0 b T (fun _=>True) 92 #[.pointer (Zs b 0),.agg #[Zi A,Zi 10,Zi N,.string ⟨S.toArray⟩,.slice pt nt ct,.slice pn n cn,.slice pp q cp]] (JM (Ks 0) 7 (tk 0)++tS [46]::tN S::zd3 m (fun k=>JM (Ks (k+1)) 1 (tk (k+1)))):=by
 intro ts w hw Y Z _;obtain⟨g,o,A0,N0,S0,p1,p2,p3,n1,n2,n3,c1,c2,c3,rfl,aa,ff⟩:=(G 0 (by omega)).first;obtain⟨I,J⟩:=zh3 hw Y Z #[Zi A,Zi 10,Zi N,.string ⟨S.toArray⟩,.slice pt nt ct,.slice pn n cn,.slice (Zs g o) q cp] 62 (by decide);have r:=J3 ((zd6 w0 b T _ _ _ _ _ _ _ _ _ _ _ _ _ 7 _ aa).ok (fun _ _=>trivial) J I);have s:=J3 (JU w0 b T [46]);have t:=J3 (zct w0 b T S);have u:∀(pl:Zo) (L k:Nat),k=m->(pl=some ⟨g,o+7,none⟩∨m=0)->Puts w0 b T (fun _=>True) 132 #[.pointer (Zs b 0),.slice pl k L] (zd3 m (fun k=>JM (Ks (k+1)) 1 (tk (k+1)))):=fun pl L k hk h=>by
  subst hk;refine args_any w0 b T pl k L (by omega) (fun i=>Ks (i+1)) (fun i=>tk (i+1)) (fun i hi=>?_);rcases h with rfl|h
  ·exact(G (i+1) (by omega)).tail
  ·omega
 have c:=J3 J;have ab:(0:Int)<(q:Int):=by omega
 have ac:(1:Int)<=(q:Int):=by omega
 have ad:1<=q:=by omega
 have ae:(q:Int)<=(cp:Int):=by omega
 obtain⟨y0,y1,y2,y3,y4,y5,y6⟩:=ff _ I.2.2.1;clear I J hw Z Y aa ff G;by_cases af:cp=1
 ·obtain rfl:q=1:=by omega
  obtain rfl:m=0:=by omega
  subst af;have j:=J3 (u (Zs g o) 0 0 rfl (.inr rfl));clear u hm ab ac ad ae;go_enter Tryz.func92,Tryz.ntmps92;go_wp2_with (first|(go_at_call 93;refine r.mono ?_;clear r;rintro x wa ⟨rfl,ok⟩;have m:=xBox.cells ok.2.2.2.2.2;obtain⟨m0,m1,m2,m3,m4,m5,m6⟩:=m;have M:=J3 ok;clear ok)|(go_at_call 67;refine(s.ok (fun _ _=>trivial) c M).mono ?_;clear s;rintro x wb ⟨rfl,ok⟩;have m:=xBox.cells ok.2.2.2.2.2;obtain⟨m0,m1,m2,m3,m4,m5,m6⟩:=m;have U:=J3 ok;clear ok))
  go_region_with (go_at_call 75;refine(t.ok (fun _ _=>trivial) c (U.drew c)).mono ?_;clear t;rintro x wd ⟨rfl,ok⟩;have m:=xBox.cells ok.2.2.2.2.2;obtain⟨m0,m1,m2,m3,m4,m5,m6⟩:=m;have V:=J3 ok;clear ok)
  all_goals
   go_wp2_with (go_at_call 132;refine(j.ok (fun _ _=>trivial) c V).mono ?_;clear j;rintro x wc ⟨rfl,ok⟩)
   all_goals
    exact Yd (v:=.tuple #[]) (by simp[results,Tryz.results92,go_sem]) rfl (ok.fin (by rw[J8];rfl))
 ·have ah:1<cp:=by omega
  have ag:¬(cp:Int)=1:=by omega
  have ai:((cp:Int)==1)=false:=Y3.2 ag;have j:=J3 (u (Zs g (o+7)) (cp-1) (q-1) (by omega) (.inl rfl));clear u hm;go_enter Tryz.func92,Tryz.ntmps92;go_wp2_with (first|(go_at_call 93;refine r.mono ?_;clear r;rintro x wa ⟨rfl,ok⟩;have m:=xBox.cells ok.2.2.2.2.2;obtain⟨m0,m1,m2,m3,m4,m5,m6⟩:=m;have M:=J3 ok;clear ok)|(go_at_call 67;refine(s.ok (fun _ _=>trivial) c M).mono ?_;clear s;rintro x wb ⟨rfl,ok⟩;have m:=xBox.cells ok.2.2.2.2.2;obtain⟨m0,m1,m2,m3,m4,m5,m6⟩:=m;have U:=J3 ok;clear ok))
  go_region_with (go_at_call 75;refine(t.ok (fun _ _=>trivial) c (U.drew c)).mono ?_;clear t;rintro x wd ⟨rfl,ok⟩;have m:=xBox.cells ok.2.2.2.2.2;obtain⟨m0,m1,m2,m3,m4,m5,m6⟩:=m;have V:=J3 ok;clear ok)
  all_goals
   go_wp2_with (go_at_call 132;refine(j.ok (fun _ _=>trivial) c V).mono ?_;clear j;rintro x wc ⟨rfl,ok⟩)
   all_goals
    exact Yd (v:=.tuple #[]) (by simp[results,Tryz.results92,go_sem]) rfl (ok.fin (by rw[J8];rfl))
end Go.Proofs.YtdcbglnhhbmpgaaGreatDoor
