import Derived.Test.YtdcbglnhhbmpgaaGreatDoorQStG
set_option maxHeartbeats 4000000
set_option maxRecDepth 100000
namespace Go.Proofs.YtdcbglnhhbmpgaaGreatDoor
open Go Go.RowKit Lx
theorem sBox.cells {W:Zw} {x:Nat} {A K:Int} {S:Zy} {pt px pb pe:Zo} {t n b e ct cx cb ce:Nat} (h:W.heap[x]?=some (sBox A K S pt px pb pe t n b e ct cx cb ce)) :
  ZL7 W x (Zi A) (Zi K) (.string S) (.slice pt t ct) (.slice px n cx) (.slice pb b cb) (.slice pe e ce):=
 ⟨by rw[Y0 h];rfl,by rw[Y0 h];rfl,by rw[Y0 h];rfl,by rw[Y0 h];rfl,by rw[Y0 h];rfl,by rw[Y0 h];rfl,by rw[Y0 h];rfl⟩
abbrev swBox (b:Nat):Obj:=.cells #[.pointer (Zs b 0)] 139
theorem zg6 (w0:Zw) (b:Nat) (T:TypeId) (p:Zo) (n c:Nat) (tk:List Tok) (j:Puts w0 b T (fun _=>True) 55 #[.pointer (Zs b 0),.slice p n c] tk) :
  Puts w0 b T (fun _=>True) 77 #[.pointer (Zs b 0),.slice p n c] (tS [123]::(tk++[tS [125]])):=by
 intro u w hw G r _;obtain⟨s,g⟩:=boxes hw G r 139 #[.slice p n c] 32 (by decide) (by decide);have I:Puts w0 b T (fun V=>V.heap[w.heap.size]?=some (swBox b)/\V.heap[w.heap.size+1]?=some (.cells #[.slice p n c] 32)) 121 #[.pointer (Zs w.heap.size 0),.pointer (Zs (w.heap.size+1) 0)] tk:=by
  intro u w1 J Y L t;have d0:w1.cell? ⟨w.heap.size,0,none⟩=some (.pointer (Zs b 0)):=by rw[Y0 t.1];rfl
  have d1:w1.cell? ⟨w.heap.size+1,0,none⟩=some (.slice p n c):=by rw[Y0 t.2];rfl
  have M:=J3 (j u w1 J Y L trivial);clear t s g j hw r J L;go_enter Tryz.func121,Tryz.ntmps121;go_wp2_with (go_at_call 55;refine M.mono ?_;clear M;rintro x wb ⟨rfl,Z,aa,ab⟩);exact Yd (v:=.tuple #[]) (by simp[results,Tryz.results121,go_sem]) rfl ⟨rfl,Z,aa,ab⟩
 have U:=J3 ((zcc w0 b T _ g _ (fun _ _=>by kernel_rfl) _ _ [123] [125] tk I).ok (fun _ h=>h) g s);clear s g hw r G j I;go_enter Tryz.func77,Tryz.ntmps77;go_wp2_with (go_at_call 81;refine U.mono ?_;clear U;rintro x wa ⟨rfl,ok⟩);exact Yd (v:=.tuple #[]) (by simp[results,Tryz.results77,go_sem]) rfl (ok.fin rfl)
theorem simple_7 (w0:Zw) (b:Nat) (T:TypeId) (A:Int) (S:Bs) (pt px pb pe:Zo) (t nb ne ct cx cb ce:Nat) (M:Int) (tk:List Tok) (r:ExPart w0 b T px 0 M tk) :
  Puts w0 b T (fun _=>True) 138 #[.pointer (Zs b 0),.agg #[Zi A,Zi 7,.string ⟨S.toArray⟩,.slice pt t ct,.slice px 1 cx,.slice pb nb cb,.slice pe ne ce]] (tk++[tS [59]]):=by
 intro Y w hw s u _;obtain⟨g,o,Z,N0,S0,p1,p2,p3,n1,n2,n3,c1,c2,c3,rfl,G,c⟩:=r.first;obtain⟨h,I⟩:=zh3 hw s u #[Zi A,Zi 7,.string ⟨S.toArray⟩,.slice pt t ct,.slice (Zs g o) 1 cx,.slice pb nb cb,.slice pe ne ce] 124 (by decide);have J:=J3 G;have L:=J3 (JU w0 b T [59]);have j:=J3 I;have FF:=J3 c;obtain⟨y0,y1,y2,y3,y4,y5,y6⟩:=c _ h.2.2.1;have U:=J3 h;clear h I hw u s G c r;go_enter Tryz.func138,Tryz.ntmps138;go_wp2_with fail
 go_region_with (go_at_call 53;refine(J.ok (fun _ _=>trivial) j (U.drew j)).mono ?_;clear J;rintro x wx ⟨rfl,ok⟩;have V:=J3 ok;clear ok)
 all_goals
  go_wp2_with (go_at_call 67;refine(L.ok (fun _ _=>trivial) j V).mono ?_;clear L;rintro x wz ⟨rfl,ok⟩);exact Yd (v:=.tuple #[]) (by simp[results,Tryz.results138,go_sem]) rfl (ok.fin (by simp only[J8,Jq,JE]))
theorem simple_3 (w0:Zw) (b:Nat) (T:TypeId) (A:Int) (S:Bs) (pt px pb pe:Zo) (t nb ne ct cx cb ce:Nat) (U:Int) (tk:List Tok) (r:ExPart w0 b T px 0 U tk) :
  Puts w0 b T (fun _=>True) 138 #[.pointer (Zs b 0),.agg #[Zi A,Zi 3,.string ⟨S.toArray⟩,.slice pt t ct,.slice px 1 cx,.slice pb nb cb,.slice pe ne ce]] (tW [112,114,105,110,116]::(tk++[tS [59]])):=by
 intro ts w hw s u _;obtain⟨g,o,A0,N0,S0,p1,p2,p3,n1,n2,n3,c1,c2,c3,rfl,G,h⟩:=r.first;obtain⟨j,I⟩:=zh3 hw s u #[Zi A,Zi 3,.string ⟨S.toArray⟩,.slice pt t ct,.slice (Zs g o) 1 cx,.slice pb nb cb,.slice pe ne ce] 124 (by decide);have J:=J3 G;have L:=J3 (JU w0 b T [59]);have c:=J3 I;have FF:=J3 h;obtain⟨V,Y,Z,y3,y4,y5,y6⟩:=h _ j.2.2.1;have aa:=J3 j;have M:=J3 (JH w0 b T [112,114,105,110,116]);clear j I hw u s G h r;go_enter Tryz.func138,Tryz.ntmps138;go_wp2_with (go_at_call 65;refine(M.ok (fun _ _=>trivial) c aa).mono ?_;clear M;rintro x wa ⟨rfl,ok⟩;have m:=sBox.cells ok.2.2.2.2.2;obtain⟨m0,m1,m2,m3,m4,m5,m6⟩:=m;obtain⟨V,Y,Z,y3,y4,y5,y6⟩:=FF _ ok.2.2.1;have ab:=J3 ok;clear ok)
 go_region_with (go_at_call 53;refine(J.ok (fun _ _=>trivial) c (ab.drew c)).mono ?_;clear J;rintro x wx ⟨rfl,ok⟩;have ac:=J3 ok;clear ok)
 all_goals
  go_wp2_with (go_at_call 67;refine(L.ok (fun _ _=>trivial) c ac).mono ?_;clear L;rintro x wz ⟨rfl,ok⟩);exact Yd (v:=.tuple #[]) (by simp[results,Tryz.results138,go_sem]) rfl (ok.fin (by simp only[J8,Jq,JE]))
theorem simple_6 (w0:Zw) (b:Nat) (T:TypeId) (A:Int) (S:Bs) (pt px pb pe:Zo) (t nb ne ct cx cb ce:Nat) (U:Int) (tk:List Tok) (r:ExPart w0 b T px 0 U tk) :
  Puts w0 b T (fun _=>True) 138 #[.pointer (Zs b 0),.agg #[Zi A,Zi 6,.string ⟨S.toArray⟩,.slice pt t ct,.slice px 1 cx,.slice pb nb cb,.slice pe ne ce]] (tW [114,101,116,117,114,110]::(tk++[tS [59]])):=by
 intro ts w hw s u _;obtain⟨g,o,A0,N0,S0,p1,p2,p3,n1,n2,n3,c1,c2,c3,rfl,G,h⟩:=r.first;obtain⟨j,I⟩:=zh3 hw s u #[Zi A,Zi 6,.string ⟨S.toArray⟩,.slice pt t ct,.slice (Zs g o) 1 cx,.slice pb nb cb,.slice pe ne ce] 124 (by decide);have J:=J3 G;have L:=J3 (JU w0 b T [59]);have c:=J3 I;have FF:=J3 h;obtain⟨V,Y,Z,y3,y4,y5,y6⟩:=h _ j.2.2.1;have aa:=J3 j;have M:=J3 (JH w0 b T [114,101,116,117,114,110]);clear j I hw u s G h r;go_enter Tryz.func138,Tryz.ntmps138;go_wp2_with (go_at_call 65;refine(M.ok (fun _ _=>trivial) c aa).mono ?_;clear M;rintro x wa ⟨rfl,ok⟩;have m:=sBox.cells ok.2.2.2.2.2;obtain⟨m0,m1,m2,m3,m4,m5,m6⟩:=m;obtain⟨V,Y,Z,y3,y4,y5,y6⟩:=FF _ ok.2.2.1;have ab:=J3 ok;clear ok)
 go_region_with (go_at_call 53;refine(J.ok (fun _ _=>trivial) c (ab.drew c)).mono ?_;clear J;rintro x wx ⟨rfl,ok⟩;have ac:=J3 ok;clear ok)
 all_goals
  go_wp2_with (go_at_call 67;refine(L.ok (fun _ _=>trivial) c ac).mono ?_;clear L;rintro x wz ⟨rfl,ok⟩);exact Yd (v:=.tuple #[]) (by simp[results,Tryz.results138,go_sem]) rfl (ok.fin (by simp only[J8,Jq,JE]))
theorem simple_2 (w0:Zw) (b:Nat) (T:TypeId) (A:Int) (S:Bs) (pt px pb pe:Zo) (t nb ne ct cx cb ce:Nat) (V:Int) (tk:List Tok) (r:ExPart w0 b T px 0 V tk) :
  Puts w0 b T (fun _=>True) 138 #[.pointer (Zs b 0),.agg #[Zi A,Zi 2,.string ⟨S.toArray⟩,.slice pt t ct,.slice px 1 cx,.slice pb nb cb,.slice pe ne ce]] (tN S::tS [61]::(tk++[tS [59]])):=by
 intro ts w hw s u _;obtain⟨g,o,A0,N0,S0,p1,p2,p3,n1,n2,n3,c1,c2,c3,rfl,G,h⟩:=r.first;obtain⟨j,I⟩:=zh3 hw s u #[Zi A,Zi 2,.string ⟨S.toArray⟩,.slice pt t ct,.slice (Zs g o) 1 cx,.slice pb nb cb,.slice pe ne ce] 124 (by decide);have J:=J3 G;have L:=J3 (JU w0 b T [59]);have c:=J3 I;have FF:=J3 h;obtain⟨Y,Z,y2,y3,y4,y5,y6⟩:=h _ j.2.2.1;have aa:=J3 j;have M:=J3 (zct w0 b T S);have U:=J3 (JU w0 b T [61]);clear j I hw u s G h r;go_enter Tryz.func138,Tryz.ntmps138;go_wp2_with fail
 go_region_with (go_at_call 75;refine(M.ok (fun _ _=>trivial) c (aa.drew c)).mono ?_;clear M;rintro x wa ⟨rfl,ok⟩;have ab:=J3 ok;clear ok)
 go_wp2_with (go_at_call 67;refine(U.ok (fun _ _=>trivial) c ab).mono ?_;clear U;rintro x wb ⟨rfl,ok⟩;have m:=sBox.cells ok.2.2.2.2.2;obtain⟨m0,m1,m2,m3,m4,m5,m6⟩:=m;obtain⟨Y,Z,y2,y3,y4,y5,y6⟩:=FF _ ok.2.2.1;have ac:=J3 ok;clear ok)
 go_region_with (go_at_call 53;refine(J.ok (fun _ _=>trivial) c (ac.drew c)).mono ?_;clear J;rintro x wx ⟨rfl,ok⟩;have ad:=J3 ok;clear ok)
 all_goals
  go_wp2_with (go_at_call 67;refine(L.ok (fun _ _=>trivial) c ad).mono ?_;clear L;rintro x wz ⟨rfl,ok⟩);exact Yd (v:=.tuple #[]) (by simp[results,Tryz.results138,go_sem]) rfl (ok.fin (by simp only[J8,Jq,JE]))
theorem simple_1 (w0:Zw) (b:Nat) (T:TypeId) (A:Int) (S:Bs) (pt px pb pe:Zo) (t nb ne ct cx cb ce:Nat) (K0:Int) (tk:List Tok) (hP:ExPart w0 b T px 0 K0 tk) (h:Nat->List Tok) (ht:t<=1000000) (hT:∀k,k<t->TyPart w0 b T 50 pt k (h k)) :
  Puts w0 b T (fun _=>True) 138 #[.pointer (Zs b 0),.agg #[Zi A,Zi 1,.string ⟨S.toArray⟩,.slice pt t ct,.slice px 1 cx,.slice pb nb cb,.slice pe ne ce]] (tW [108,101,116]::tN S::((List.range t).flatMap h++tS [61]::(tk++[tS [59]]))):=by
 intro ts w hw ab ac _;obtain⟨g,o,A0,N0,S0,p1,p2,p3,n1,n2,n3,c1,c2,c3,rfl,ad,M⟩:=hP.first;obtain⟨U,hS⟩:=zh3 hw ab ac #[Zi A,Zi 1,.string ⟨S.toArray⟩,.slice pt t ct,.slice (Zs g o) 1 cx,.slice pb nb cb,.slice pe ne ce] 124 (by decide);have PX:=J3 ad;have P9:=J3 (JU w0 b T [59]);have c:=J3 hS;have FF:=J3 M;obtain⟨r,s,u,G,I,J,L⟩:=M _ U.2.2.1;have ae:=J3 U;have P1:=J3 (JH w0 b T [108,101,116]);have P2:=J3 (zct w0 b T S);have P3:=J3 (JU w0 b T [61]);have af:=J3 hT;clear hT;clear U hS hw ac ab ad M hP;go_enter Tryz.func138,Tryz.ntmps138;go_wp2_with (go_at_call 65;refine(P1.ok (fun _ _=>trivial) c ae).mono ?_;clear P1;rintro x wa ⟨rfl,ok⟩;have m:=sBox.cells ok.2.2.2.2.2;obtain⟨m0,m1,m2,m3,m4,m5,m6⟩:=m;obtain⟨r,s,u,G,I,J,L⟩:=FF _ ok.2.2.1;have ag:=J3 ok;clear ok)
 go_region_with (go_at_call 75;refine(P2.ok (fun _ _=>trivial) c (ag.drew c)).mono ?_;clear P2;rintro x wb ⟨rfl,ok⟩;have m:=sBox.cells ok.2.2.2.2.2;obtain⟨m0,m1,m2,m3,m4,m5,m6⟩:=m;obtain⟨r,s,u,G,I,J,L⟩:=FF _ ok.2.2.1;have ah:=J3 ok;clear ok)
 clear r s u G I J L;go_wp2;obtain⟨Y,Z⟩:=Ze (Jc (Jc ts [tW [108,101,116]]) [tN S])
 rw[<-Z]at ah;have ak:=J3 Z;clear Z ag ae
 go_loopw [27] (fun i wr=>∃k:Nat,i=Zi k/\k<=t/\ZH (Ok w0 b T (fun V=>V.heap[w.heap.size]?=some (sBox A 1 ⟨S.toArray⟩ pt (Zs g o) pb pe t 1 nb ne ct cx cb ce)) w (Jc Y ((List.range k).flatMap h)) wr)) (fun i _=>t-(intOf i).toNat)
 case atStart=>exact⟨0,rfl,by omega,ah⟩
 case round=>
  obtain⟨k,rfl,hk,HO⟩:=hrel;by_cases al:k<t
  ·have am:(k:Int)<(t:Int):=by omega
   obtain⟨gt,ot,Kt,St,q1,q2,q3,k1,k2,k3,d1,d2,d3,rfl,a0,a1,a2,a3,a4,ai⟩:=af k al;have j:=HO.2.2.1;have z0:=(j.cell (p:=⟨gt,_,none⟩) (J2 a0)).trans a0;have z1:=(j.cell (p:=⟨gt,_,none⟩) (J2 a1)).trans a1;have z2:=(j.cell (p:=⟨gt,_,none⟩) (J2 a2)).trans a2;have z3:=(j.cell (p:=⟨gt,_,none⟩) (J2 a3)).trans a3;have z4:=(j.cell (p:=⟨gt,_,none⟩) (J2 a4)).trans a4;obtain⟨aj,aa⟩:=HO.box c #[Zi Kt,.string St,.slice q1 k1 d1,.slice q2 k2 d2,.slice q3 k3 d3] 31 (by decide);have WT:=J3 (ai.ok (fun _ _=>trivial) aa (aj.drew aa));have HK:ZH (Jc Y ((List.range (k+1)).flatMap h)=Jc (Jc Y ((List.range k).flatMap h)) (h k)):=by
    show _=_;rw[YA,YO,J8];simp
   clear a0 a1 a2 a3 a4 ai j af aj aa;go_wp2_with fail
   go_region_with (go_at_call 50;refine WT.mono ?_;clear WT;rintro x wb ⟨rfl,ok⟩)
   all_goals
    go_wp2;go_roundw
    case rel=>exact⟨k+1,by go_num,by omega,(by rw[J0 HK];exact⟨ok.1,ok.2.1,ok.2.2.1,ok.2.2.2.1,ok.2.2.2.2.1,ok.2.2.2.2.2.1⟩)⟩
    case measure=>simp[intOf];omega
  ·obtain rfl:k=t:=by omega
   have am:¬(k:Int)<(k:Int):=by omega
   go_wp2_with (go_at_call 67;refine(P3.ok (fun _ _=>trivial) c HO).mono ?_;clear P3;rintro x wb ⟨rfl,ok⟩;have m:=sBox.cells ok.2.2.2.2.2;obtain⟨m0,m1,m2,m3,m4,m5,m6⟩:=m;obtain⟨r,s,u,G,I,J,L⟩:=FF _ ok.2.2.1;have an:=J3 ok;clear ok)
   go_region_with (go_at_call 53;refine(PX.ok (fun _ _=>trivial) c (an.drew c)).mono ?_;clear PX;rintro x wx ⟨rfl,ok⟩;have ao:=J3 ok;clear ok)
   all_goals
    go_wp2_with (go_at_call 67;refine(P9.ok (fun _ _=>trivial) c ao).mono ?_;clear P9;rintro x wz ⟨rfl,ok⟩);exact Yd (v:=.tuple #[]) (by simp[results,Tryz.results138,go_sem]) rfl (ok.fin (by rw[J0 ak];simp only[J8,Jq,JE]))
theorem zeg (w0:Zw) (b:Nat) (T:TypeId) (A K:Int) (S:Bs) (pt px pb pe:Zo) (t n nb ne ct cx cb ce:Nat) (tk:List Tok) (u:K≠4) (G:K≠5) (c:Puts w0 b T (fun _=>True) 138 #[.pointer (Zs b 0),.agg #[Zi A,Zi K,.string ⟨S.toArray⟩,.slice pt t ct,.slice px n cx,.slice pb nb cb,.slice pe ne ce]] tk) :
  Puts w0 b T (fun _=>True) 96 #[.pointer (Zs b 0),.agg #[Zi A,Zi K,.string ⟨S.toArray⟩,.slice pt t ct,.slice px n cx,.slice pb nb cb,.slice pe ne ce]] tk:=by
 intro I w hw g h _;obtain⟨j,r⟩:=zh3 hw g h #[Zi A,Zi K,.string ⟨S.toArray⟩,.slice pt t ct,.slice px n cx,.slice pb nb cb,.slice pe ne ce] 124 (by decide);have J:(K==4)=false:=Y3.2 u;have L:(K==5)=false:=Y3.2 G;have s:=J3 (c.ok (fun _ _=>trivial) r j);clear j r hw h g c;go_enter Tryz.func96,Tryz.ntmps96;go_wp2_with (go_at_call 138;refine s.mono ?_;clear s;rintro x M ⟨rfl,ok⟩);exact Yd (v:=.tuple #[]) (by simp[results,Tryz.results96,go_sem]) rfl (ok.fin rfl)
theorem stmt_while (w0:Zw) (b:Nat) (T:TypeId) (A:Int) (S:Bs) (pt px pb pe:Zo) (t nb ne ct cx cb ce:Nat) (Y:Int) (tk h:List Tok) (j:ExPart w0 b T px 0 Y tk) (r:Puts w0 b T (fun _=>True) 55 #[.pointer (Zs b 0),.slice pb nb cb] h) :
  Puts w0 b T (fun _=>True) 96 #[.pointer (Zs b 0),.agg #[Zi A,Zi 5,.string ⟨S.toArray⟩,.slice pt t ct,.slice px 1 cx,.slice pb nb cb,.slice pe ne ce]] (tW [119,104,105,108,101]::(tk++tS [123]::(h++[tS [125]]))):=by
 intro ts w hw s u _;obtain⟨g,o,A0,N0,S0,p1,p2,p3,n1,n2,n3,c1,c2,c3,rfl,G,I⟩:=j.first;obtain⟨J,L⟩:=zh3 hw s u #[Zi A,Zi 5,.string ⟨S.toArray⟩,.slice pt t ct,.slice (Zs g o) 1 cx,.slice pb nb cb,.slice pe ne ce] 124 (by decide);have M:=J3 G;have U:=J3 (zg6 w0 b T _ _ _ _ r);have c:=J3 L;have FF:=J3 I;have Z:=J3 J;have V:=J3 (JH w0 b T [119,104,105,108,101]);clear J L hw u s G I j r;go_enter Tryz.func96,Tryz.ntmps96;go_wp2_with (go_at_call 65;refine(V.ok (fun _ _=>trivial) c Z).mono ?_;clear V;rintro x wa ⟨rfl,ok⟩;have m:=sBox.cells ok.2.2.2.2.2;obtain⟨m0,m1,m2,m3,m4,m5,m6⟩:=m;obtain⟨y0,y1,y2,y3,y4,y5,y6⟩:=FF _ ok.2.2.1;have aa:=J3 ok;clear ok)
 go_region_with (go_at_call 53;refine(M.ok (fun _ _=>trivial) c (aa.drew c)).mono ?_;clear M;rintro x wx ⟨rfl,ok⟩;have m:=sBox.cells ok.2.2.2.2.2;obtain⟨m0,m1,m2,m3,m4,m5,m6⟩:=m;have ab:=J3 ok;clear ok)
 all_goals
  go_wp2_with (go_at_call 77;refine(U.ok (fun _ _=>trivial) c ab).mono ?_;clear U;rintro x wy ⟨rfl,ok⟩;have m:=sBox.cells ok.2.2.2.2.2;obtain⟨m0,m1,m2,m3,m4,m5,m6⟩:=m;have ac:=J3 ok;clear ok);exact Yd (v:=.tuple #[]) (by simp[results,Tryz.results96,go_sem]) rfl (ac.fin (by simp only[J8,Jq,JE]))
theorem stmt_if (w0:Zw) (b:Nat) (T:TypeId) (A:Int) (S:Bs) (pt px pb pe:Zo) (t nb ne ct cx cb ce:Nat) (Y:Int) (tk h:List Tok) (j:ExPart w0 b T px 0 Y tk) (r:Puts w0 b T (fun _=>True) 55 #[.pointer (Zs b 0),.slice pb nb cb] h) (Z:ne=0) :
  Puts w0 b T (fun _=>True) 96 #[.pointer (Zs b 0),.agg #[Zi A,Zi 4,.string ⟨S.toArray⟩,.slice pt t ct,.slice px 1 cx,.slice pb nb cb,.slice pe ne ce]] (tW [105,102]::(tk++tS [123]::(h++[tS [125]]))):=by
 intro ts w hw s u _;obtain⟨g,o,A0,N0,S0,p1,p2,p3,n1,n2,n3,c1,c2,c3,rfl,G,I⟩:=j.first;obtain⟨J,L⟩:=zh3 hw s u #[Zi A,Zi 4,.string ⟨S.toArray⟩,.slice pt t ct,.slice (Zs g o) 1 cx,.slice pb nb cb,.slice pe ne ce] 124 (by decide);have M:=J3 G;have U:=J3 (zg6 w0 b T _ _ _ _ r);have c:=J3 L;have FF:=J3 I;have aa:=J3 J;subst Z;have V:=J3 (JH w0 b T [105,102]);clear J L hw u s G I j r;go_enter Tryz.func96,Tryz.ntmps96;go_wp2_with (go_at_call 65;refine(V.ok (fun _ _=>trivial) c aa).mono ?_;clear V;rintro x wa ⟨rfl,ok⟩;have m:=sBox.cells ok.2.2.2.2.2;obtain⟨m0,m1,m2,m3,m4,m5,m6⟩:=m;obtain⟨y0,y1,y2,y3,y4,y5,y6⟩:=FF _ ok.2.2.1;have ab:=J3 ok;clear ok)
 go_region_with (go_at_call 53;refine(M.ok (fun _ _=>trivial) c (ab.drew c)).mono ?_;clear M;rintro x wx ⟨rfl,ok⟩;have m:=sBox.cells ok.2.2.2.2.2;obtain⟨m0,m1,m2,m3,m4,m5,m6⟩:=m;have ac:=J3 ok;clear ok)
 all_goals
  go_wp2_with (go_at_call 77;refine(U.ok (fun _ _=>trivial) c ac).mono ?_;clear U;rintro x wy ⟨rfl,ok⟩;have m:=sBox.cells ok.2.2.2.2.2;obtain⟨m0,m1,m2,m3,m4,m5,m6⟩:=m;have ad:=J3 ok;clear ok);exact Yd (v:=.tuple #[]) (by simp[results,Tryz.results96,go_sem]) rfl (ad.fin (by simp only[J8,Jq,JE]))
theorem stmt_else (w0:Zw) (b:Nat) (T:TypeId) (A:Int) (S:Bs) (pt px pb pe:Zo) (t nb ne ct cx cb ce:Nat) (K0:Int) (tk h j:List Tok) (r:ExPart w0 b T px 0 K0 tk) (s:Puts w0 b T (fun _=>True) 55 #[.pointer (Zs b 0),.slice pb nb cb] h) (ag:0<ne) (hE:Puts w0 b T (fun _=>True) 55 #[.pointer (Zs b 0),.slice pe ne ce] j) :
  Puts w0 b T (fun _=>True) 96 #[.pointer (Zs b 0),.agg #[Zi A,Zi 4,.string ⟨S.toArray⟩,.slice pt t ct,.slice px 1 cx,.slice pb nb cb,.slice pe ne ce]] (tW [105,102]::(tk++tS [123]::(h++tS [125]::tW [101,108,115,101]::tS [123]::(j++[tS [125]])))):=by
 intro ts w hw u G _;obtain⟨g,o,A0,N0,S0,p1,p2,p3,n1,n2,n3,c1,c2,c3,rfl,I,J⟩:=r.first;obtain⟨L,M⟩:=zh3 hw u G #[Zi A,Zi 4,.string ⟨S.toArray⟩,.slice pt t ct,.slice (Zs g o) 1 cx,.slice pb nb cb,.slice pe ne ce] 124 (by decide);have U:=J3 I;have V:=J3 (zg6 w0 b T _ _ _ _ s);have c:=J3 M;have FF:=J3 J;have aa:=J3 L;have ah:(0:Int)<(ne:Int):=by omega
 have Y:=J3 (JH w0 b T [105,102]);have Z:=J3 (JH w0 b T [101,108,115,101]);have PE:=J3 (zg6 w0 b T _ _ _ _ hE);clear L M hw G u I J r s;go_enter Tryz.func96,Tryz.ntmps96;go_wp2_with (go_at_call 65;refine(Y.ok (fun _ _=>trivial) c aa).mono ?_;clear Y;rintro x wa ⟨rfl,ok⟩;have m:=sBox.cells ok.2.2.2.2.2;obtain⟨m0,m1,m2,m3,m4,m5,m6⟩:=m;obtain⟨y0,y1,y2,y3,y4,y5,y6⟩:=FF _ ok.2.2.1;have ab:=J3 ok;clear ok)
 go_region_with (go_at_call 53;refine(U.ok (fun _ _=>trivial) c (ab.drew c)).mono ?_;clear U;rintro x wx ⟨rfl,ok⟩;have m:=sBox.cells ok.2.2.2.2.2;obtain⟨m0,m1,m2,m3,m4,m5,m6⟩:=m;have ac:=J3 ok;clear ok)
 all_goals
  go_wp2_with (first|(go_at_call 77;refine(V.ok (fun _ _=>trivial) c ac).mono ?_;clear V;rintro x wy ⟨rfl,ok⟩;have m:=sBox.cells ok.2.2.2.2.2;obtain⟨m0,m1,m2,m3,m4,m5,m6⟩:=m;have ad:=J3 ok;clear ok)|(go_at_call 65;refine(Z.ok (fun _ _=>trivial) c ad).mono ?_;clear Z;rintro x wa ⟨rfl,ok⟩;have m:=sBox.cells ok.2.2.2.2.2;obtain⟨m0,m1,m2,m3,m4,m5,m6⟩:=m;have ae:=J3 ok;clear ok)|(go_at_call 77;refine(PE.ok (fun _ _=>trivial) c ae).mono ?_;clear PE;rintro x wy ⟨rfl,ok⟩;have m:=sBox.cells ok.2.2.2.2.2;obtain⟨m0,m1,m2,m3,m4,m5,m6⟩:=m;have af:=J3 ok;clear ok));exact Yd (v:=.tuple #[]) (by simp[results,Tryz.results96,go_sem]) rfl (af.fin (by simp only[J8,Jq,JE]))
def SsAt (w0:Zw) (D d m:Nat):Prop:=∀(b:Nat) (T:TypeId) (p:Zo) (c:Nat) (g:List (St D d m)),StRow w0 D d m (.slice p g.length c) g->zen D d m g->(∃room,za2 D d m room g=true) ->
 Puts w0 b T (fun _=>True) 55 #[.pointer (Zs b 0),.slice p g.length c] (zes D d m g)
theorem zdy {α:Type} (f:α->List Tok):∀(l:List α),l.flatMap f=(List.range l.length).flatMap fun i=>(l[i]?.map f).getD []
 | []=>rfl
 | x::r=>by
  rw[X6,zdy f r,Yk,List.range_succ_eq_map,X6];simp[List.flatMap_map]
theorem stmt_of (w0:Zw) (D d m:Nat) (H:SsAt w0 D d m) (b:Nat) (T:TypeId) (s:St D d (m+1)) (pt px pb pe:Zo) (ct cx cb ce:Nat) (U:TyRow w0 D (.slice pt (sT s).length ct) (sT s)) (V:ExRow w0 D d (.slice px (sX s).length cx) (sX s)) (Y:ExCap w0 D d (.slice px (sX s).length cx) (sX s)) (Z:StRow w0 D d m (.slice pb (sB s).length cb) (sB s)) (r4:StRow w0 D d m (.slice pe (sE s).length ce) (sE s))
  (u:StFit D d m s) (aa:zen D d m (sB s)) (ab:zen D d m (sE s)) (r:∃room,zkq D d m room s=true) :
  Puts w0 b T (fun _=>True) 96 #[.pointer (Zs b 0),.agg #[Zi (sAt s),Zi (zii s),.string ⟨(zb4 s).toArray⟩,.slice pt (sT s).length ct,.slice px (sX s).length cx,.slice pb (sB s).length cb,.slice pe (sE s).length ce]] (stTk D d m s):=by
 obtain⟨room,r⟩:=r;simp only[zkq,Yc]at r;obtain⟨⟨⟨⟨⟨_,g⟩,ac⟩,J⟩,ad⟩,ae⟩:=r;have af:=zm8 g;have L:(sX s)[0]?=some ((sX s)[0]'(by omega)):=Y6 _;rw[L]at J;have c:=zee w0 D d b T px cx (sX s) V Y u.2.2.2.1 (fun k x G=>by
  have t:k<(sX s).length:=(YI.1 G).1;obtain rfl:k=0:=by omega
  rw[L]at G;obtain rfl:=Y1 G;exact⟨_,J⟩) 0 (by omega)
 have I:=H b T pb cb (sB s) Z aa ⟨_,ad⟩;have hE:=H b T pe ce (sE s) r4 ab ⟨_,ae⟩;have hT:∀k,k<(sT s).length->TyPart w0 b T 50 pt k (((sT s)[k]?.map (Jf D false)).getD []):=fun k t=>by
  have j:(sT s)[k]?=some (sT s)[k]:=by simp
  have:=(zb3 w0 D).1 b T pt ct (sT s) U u.2.1 ⟨64,ac⟩ (by simp) k _ j;rw[j];exact this
 have ag:=zdy (Jf D false) (sT s);obtain⟨h,M⟩:=Ze (((sX s)[0]?.map (zj6 D d)).getD [])
 rw[stTk,<-M];rw[<-M]at c;rw[af];unfold zfg zet at g;simp only[Yc]at g;replace g:=g.2;generalize hK:zii s=K at g ⊢;have ah:0<=(sE s).length:=Xr _;have t:K=1∨K=2∨K=3∨K=4∨K=5∨K=6∨K=7:=by
  apply Decidable.byContradiction;intro t;rw[Y7 (by omega),Y7 (by omega),Y7 (by omega),Y7 (by omega),Y7 (by omega)]at g
  cases g
 rcases t with rfl|rfl|rfl|rfl|rfl|rfl|rfl
 ·have:=zeg w0 b T (sAt s) 1 (zb4 s) pt px pb pe (sT s).length 1 (sB s).length (sE s).length ct cx cb ce _ (by decide) (by decide) (simple_1 w0 b T (sAt s) (zb4 s) pt px pb pe _ _ _ ct cx cb ce _ h c (fun i=>((sT s)[i]?.map (Jf D false)).getD []) (by have:=u.2.2.1;omega) hT);rw[<-ag]at this;simpa[stT]using this
 ·have:=zeg w0 b T (sAt s) 2 (zb4 s) pt px pb pe (sT s).length 1 (sB s).length (sE s).length ct cx cb ce _ (by decide) (by decide) (simple_2 w0 b T (sAt s) (zb4 s) pt px pb pe _ _ _ ct cx cb ce _ h c);simpa[stT]using this
 ·have:=zeg w0 b T (sAt s) 3 (zb4 s) pt px pb pe (sT s).length 1 (sB s).length (sE s).length ct cx cb ce _ (by decide) (by decide) (simple_3 w0 b T (sAt s) (zb4 s) pt px pb pe _ _ _ ct cx cb ce _ h c);simpa[stT]using this
 ·by_cases j:0<(sE s).length
  ·have:=stmt_else w0 b T (sAt s) (zb4 s) pt px pb pe (sT s).length (sB s).length (sE s).length ct cx cb ce _ h _ _ c I j hE;simpa[stT,j]using this
  ·have:=stmt_if w0 b T (sAt s) (zb4 s) pt px pb pe (sT s).length (sB s).length (sE s).length ct cx cb ce _ h _ c I (by omega);simpa[stT,j]using this
 ·have:=stmt_while w0 b T (sAt s) (zb4 s) pt px pb pe (sT s).length (sB s).length (sE s).length ct cx cb ce _ h _ c I;simpa[stT]using this
 ·have:=zeg w0 b T (sAt s) 6 (zb4 s) pt px pb pe (sT s).length 1 (sB s).length (sE s).length ct cx cb ce _ (by decide) (by decide) (simple_6 w0 b T (sAt s) (zb4 s) pt px pb pe _ _ _ ct cx cb ce _ h c);simpa[stT]using this
 ·have:=zeg w0 b T (sAt s) 7 (zb4 s) pt px pb pe (sT s).length 1 (sB s).length (sE s).length ct cx cb ce _ (by decide) (by decide) (simple_7 w0 b T (sAt s) (zb4 s) pt px pb pe _ _ _ ct cx cb ce _ h c);simpa[stT]using this
theorem stmts_run (w0:Zw) (b:Nat) (T:TypeId) (p:Zo) (n c:Nat) (hn:n<=1000000) (j:Nat->List Tok)
  (J:∀k,k<n->∃(g o:Nat) (A K:Int) (S:Zy) (pt px pb pe:Zo) (t x nb ne ct cx cb ce:Nat),p=some ⟨g,o,none⟩/\w0.cell? ⟨g,o+k*7,none⟩=some (Zi A)/\w0.cell? ⟨g,o+k*7+1,none⟩=some (Zi K)/\w0.cell? ⟨g,o+k*7+2,none⟩=some (.string S)/\w0.cell? ⟨g,o+k*7+3,none⟩=some (.slice pt t ct)/\w0.cell? ⟨g,o+k*7+4,none⟩=some (.slice px x cx)/\w0.cell? ⟨g,o+k*7+5,none⟩=some (.slice pb nb cb)/\w0.cell? ⟨g,o+k*7+6,none⟩=some (.slice pe ne ce) /\
   Puts w0 b T (fun _=>True) 96 #[.pointer (Zs b 0),.agg #[Zi A,Zi K,.string S,.slice pt t ct,.slice px x cx,.slice pb nb cb,.slice pe ne ce]] (j k)) :
  Puts w0 b T (fun _=>True) 55 #[.pointer (Zs b 0),.slice p n c] ((List.range n).flatMap j):=by
 intro r w hw L M _;have aa:=J3 (Ok.of (I:=fun _=>True) hw L M trivial);have U:=J3 J;clear hw L M J;go_enter Tryz.func55,Tryz.ntmps55;go_wp2
 go_loopw [8] (fun i wr=>∃k:Nat,i=Zi k/\k<=n/\ZH (Ok w0 b T (fun _=>True) w (Jc r ((List.range k).flatMap j)) wr)) (fun i _=>n-(intOf i).toNat)
 case atStart=>exact⟨0,rfl,by omega,aa⟩
 case round=>
  obtain⟨k,rfl,hk,s⟩:=hrel;by_cases ab:k<n
  ·have ac:(k:Int)<(n:Int):=by omega
   obtain⟨g,o,A,K,S,pt,px,pb,pe,t,x,nb,ne,ct,cx,cb,ce,rfl,a0,u,a2,a3,a4,a5,G,wt⟩:=U k ab;have h:=s.2.2.1;have z0:=(h.cell (p:=⟨g,_,none⟩) (J2 a0)).trans a0;have z1:=(h.cell (p:=⟨g,_,none⟩) (J2 u)).trans u;have z2:=(h.cell (p:=⟨g,_,none⟩) (J2 a2)).trans a2;have z3:=(h.cell (p:=⟨g,_,none⟩) (J2 a3)).trans a3;have z4:=(h.cell (p:=⟨g,_,none⟩) (J2 a4)).trans a4;have z5:=(h.cell (p:=⟨g,_,none⟩) (J2 a5)).trans a5;have z6:=(h.cell (p:=⟨g,_,none⟩) (J2 G)).trans G;obtain⟨V,Y⟩:=s.box (.true _ _) #[Zi A,Zi K,.string S,.slice pt t ct,.slice px x cx,.slice pb nb cb,.slice pe ne ce] 124 (by decide);have Z:=J3 (wt.ok (fun _ _=>trivial) Y V);have HK:ZH (Jc r ((List.range (k+1)).flatMap j)=Jc (Jc r ((List.range k).flatMap j)) (j k)):=by
    show _=_;rw[YA,YO,J8];simp
   clear a0 u a2 a3 a4 a5 G wt h U V Y;go_wp2_with (go_at_call 96;refine Z.mono ?_;clear Z;rintro x wb ⟨rfl,ok⟩);go_roundw
   case rel=>exact⟨k+1,by go_num,by omega,(by rw[J0 HK];exact⟨ok.1,ok.2.1,ok.2.2.1,ok.2.2.2.1,ok.2.2.2.2.1,trivial⟩)⟩
   case measure=>simp[intOf];omega
  ·obtain rfl:k=n:=by omega
   have ac:¬(k:Int)<(k:Int):=by omega
   go_wp2;exact Yd (v:=.tuple #[]) (by simp[results,Tryz.results55,go_sem]) rfl (s.fin rfl)
theorem zhe (w0:Zw) (D d:Nat):∀m,SsAt w0 D d m
 | 0=>fun b T p c h _ _ _=>by
  match h with
  | []=>exact stmts_run w0 b T p 0 c (by omega) (fun _=>[]) fun k t=>absurd t (by omega)
  | x::_=>exact nomatch x
 | m+1=>fun b T p c h L u j=>by
  obtain⟨Y,Z,e,hp⟩:=L;injection e with M e2 e3
  subst M;obtain⟨room,j⟩:=j;rw[za2,Yn]at j;rw[zes,zdy];refine stmts_run w0 b T p h.length c u.1 _ fun k t=>?_
  have r:h[k]?=some h[k]:=by simp
  obtain⟨g,o,vt,vx,vb,ve,rfl,a0,U,a2,a3,a4,a5,V,G,s,I,J⟩:=hp k _ r;obtain⟨f1,f2,f3⟩:=u.2 _ (YK r);obtain⟨pt,ct,rfl⟩:=G.slice;obtain⟨px,cx,rfl⟩:=s.1.slice;obtain⟨pb,cb,rfl⟩:=I.slice;obtain⟨pe,ce,rfl⟩:=J.slice;refine⟨g,o,_,_,_,pt,px,pb,pe,_,_,_,_,ct,cx,cb,ce,rfl,a0,U,a2,a3,a4,a5,V,?_⟩;rw[r];exact stmt_of w0 D d m (zhe w0 D d m) b T h[k] pt px pb pe ct cx cb ce G s.1 s.2 I J f1 f2 f3 ⟨room,j _ (YK r)⟩
theorem zer {p:Prop} [Decidable p] {a b:List Tok} (c:Fits a) (g:Fits b):Fits (if p then a else b):=by
 by_cases h:p
 ·rw[Ye h];exact c
 ·rw[Y7 h];exact g
theorem stT_fits {K:Int} {S:Bs} {ty x b e:List Tok} {ne:Nat} (j:S.length<=35184372088832) (s:Fits ty) (c:Fits x) (r:Fits b) (t:Fits e):Fits (stT K S ty x b e ne):=by
 have g:∀{l:List Tok},Fits l->Fits (tS [123]::(l++[tS [125]])):=fun h=>Jr (by decide) (Jd h (Jr (by decide) Ji))
 unfold stT;refine zer (Jr (by decide) (Jd (Jd c (g r)) (zer (Jr (by decide) (g t)) Ji))) (zer (Jr (by decide) (Jd c (g r))) (Jd ?_ (Jd c (Jr (by decide) Ji))));exact zer (Jr (by decide) (Jr j (Jd s (Jr (by decide) Ji)))) (zer (Jr j (Jr (by decide) Ji)) (zer (Jr (by decide) Ji) (zer (Jr (by decide) Ji) Ji)))
theorem ze1 {α:Type} {l:List α} {f:α->List Tok} (h:∀a∈l,Fits (f a)):Fits (l.flatMap f):=fun t c=>by
 obtain⟨a,g,j⟩:=List.mem_flatMap.1 c;exact h a g t j
theorem zjg (D d:Nat):∀(m:Nat) (c:List (St D d m)),zen D d m c->Fits (zes D d m c)
 | 0,_,_=>Ji
 | m+1,c,h=>by
  rw[zes];refine ze1 fun s g=>?_
  obtain⟨⟨s1,s2,G,j,I,J,L⟩,r,he⟩:=h.2 s g;exact stT_fits (by omega) (ze1 fun t u=>zcd D false _ s2 t u) (zi1 fun a x=>zmk D d _ j a x) (zjg D d m _ r) (zjg D d m _ he)
end Go.Proofs.YtdcbglnhhbmpgaaGreatDoor
