import Derived.Test.YtdcbglnhhbmpgaaGreatDoorQSynE
set_option maxHeartbeats 4000000
set_option maxRecDepth 100000
namespace Go.Proofs.YtdcbglnhhbmpgaaGreatDoor
open Go Go.RowKit Lx
def Ex (D:Nat):Nat->Type
 | 0=>Empty
 | d+1=>Int×Int×Int×Bs×List (Ty D)×List Bs×List (Ex D d)
abbrev xAt {D d:Nat} (x:Ex D (d+1)):Int:=x.1
abbrev zfi {D d:Nat} (x:Ex D (d+1)):Int:=x.2.1
abbrev xN {D d:Nat} (x:Ex D (d+1)):Int:=x.2.2.1
abbrev xS {D d:Nat} (x:Ex D (d+1)):Bs:=x.2.2.2.1
abbrev xT {D d:Nat} (x:Ex D (d+1)):List (Ty D):=x.2.2.2.2.1
abbrev xNs {D d:Nat} (x:Ex D (d+1)):List Bs:=x.2.2.2.2.2.1
abbrev xPs {D d:Nat} (x:Ex D (d+1)):List (Ex D d):=x.2.2.2.2.2.2
def ExRow (W:Zw) (D:Nat):(d:Nat)->Value->List (Ex D d)->Prop
 | 0,v,_=>∃(p:Zo) (c:Nat),v=.slice p 0 c
 | d+1,v,xs=>∃(p:Zo) (c:Nat),v=.slice p xs.length c/\∀j x,xs[j]?=some x->∃(g o:Nat) (vt vn vp:Value),p=some ⟨g,o,none⟩ /\
   W.cell? ⟨g,o+j*7,none⟩=some (Zi (xAt x))/\W.cell? ⟨g,o+j*7+1,none⟩=some (Zi (zfi x))/\W.cell? ⟨g,o+j*7+2,none⟩=some (Zi (xN x))/\W.cell? ⟨g,o+j*7+3,none⟩=some (.string ⟨(xS x).toArray⟩) /\
   W.cell? ⟨g,o+j*7+4,none⟩=some vt/\W.cell? ⟨g,o+j*7+5,none⟩=some vn/\W.cell? ⟨g,o+j*7+6,none⟩=some vp /\
   TyRow W D vt (xT x)/\SRow W vn (xNs x)/\ExRow W D d vp (xPs x)
def ExVal (W:Zw) (D d:Nat) (v:Value) (x:Ex D (d+1)):Prop:=
 ∃(pt pn pp:Zo) (ct cn cp:Nat),v=.agg #[Zi (xAt x),Zi (zfi x),Zi (xN x),.string ⟨(xS x).toArray⟩,.slice pt (xT x).length ct,.slice pn (xNs x).length cn,.slice pp (xPs x).length cp] /\
  TyRow W D (.slice pt (xT x).length ct) (xT x)/\SRow W (.slice pn (xNs x).length cn) (xNs x)/\ExRow W D d (.slice pp (xPs x).length cp) (xPs x)
theorem ExRow.below {w w':Zw} {D:Nat} (r:ZB w w'):∀(d:Nat) {v:Value} {xs:List (Ex D d)},ExRow w D d v xs->ExRow w' D d v xs
 | 0,_,_,h=>h
 | d+1,v,xs,h=>by
  obtain⟨p,c,rfl,hp⟩:=h;refine⟨p,c,rfl,fun j t s=>?_⟩;obtain⟨g,o,vt,vn,vp,rfl,a0,u,a2,a3,a4,a5,x,G,I,J⟩:=hp j t s;have L:=J2 a0;exact⟨g,o,vt,vn,vp,rfl,Zq r a0,Zq r u,Zq r a2,Zq r a3,Zq r a4,Zq r a5,Zq r x,TyRow.below r D G,I.below r,ExRow.below r d J⟩
theorem ExVal.below {w w':Zw} {D d:Nat} {v:Value} {x:Ex D (d+1)} (h:ExVal w D d v x) (c:ZB w w'):ExVal w' D d v x:=by
 obtain⟨pt,pn,pp,ct,cn,cp,rfl,g,j,r⟩:=h;exact⟨pt,pn,pp,ct,cn,cp,rfl,TyRow.below c D g,j.below c,ExRow.below c d r⟩
theorem ExRow.slice {w:Zw} {D:Nat}:∀{d:Nat} {v:Value} {xs:List (Ex D d)},ExRow w D d v xs->∃(p:Zo) (c:Nat),v=.slice p xs.length c
 | 0,_,[],h=>h
 | 0,_,t::_,_=>nomatch t
 | _+1,_,_,⟨p,c,e,_⟩=>⟨p,c,e⟩
def zh7 (D d:Nat) (x:Ex D (d+1)):Prop:=
 (xS x).length<=35184372088832/\(xT x).length<=1000000/\za5 D (xT x)/\(xNs x).length<=1000000/\(∀s∈xNs x,s.length<=35184372088832)/\(xPs x).length<=1000000/\-9223372036854775808<=xN x/\xN x<=9223372036854775807
def ExFits (D:Nat):(d:Nat)->List (Ex D d)->Prop
 | 0,_=>True
 | d+1,xs=>xs.length<=1000000/\∀x∈xs,zh7 D d x/\ExFits D d (xPs x)
def zb8 (K:Int):Option (Int×Int×Int×Bool×Int×Int):=
 if K=1 then some (0,9223372036854775807,0,false,0,0)
 else if K=2 then some (5,0,0,false,0,0)
 else if K=3 then some (0,1,0,false,0,0)
 else if K=4 then some (1,0,0,false,0,0)
 else if K=5 then some (0,0,0,false,0,0)
 else if K=6 then some (0,0,1,false,0,0)
 else if K=7∨K=8 then some (2,0,0,true,0,9223372036854775807)
 else if K=9 then some (1,0,0,false,1,1)
 else if K=10 then some (1,0,0,false,1,9223372036854775807)
 else if K=11 then some (0,0,0,false,1,9223372036854775807)
 else if K=12 then some (0,0,1,false,1,1)
 else if K=13∨K=14 then some (0,0,0,false,1,1)
 else if 15<=K/\K<=21 then some (0,0,0,false,2,2)
 else none
def twoB (K:Int):Bool:=decide (15<=K)&&decide (K<=21)
def zdn (K:Int):Bool:=decide (K=9)||decide (K=10)||decide (K=11)||decide (K=12)||twoB K
def zji (k:Int) (s:Bs):Bool:=if k=0 then s.isEmpty else za3 k s
def zd1 (named:Bool) (ns:List Bs) (q:Nat):Bool:=if named=true then decide (ns.length=q)&&zaj ns else decide (ns.length=0)
def zb0 (D d:Nat) (x:Ex D (d+1)):Bool:=
 match zb8 (zfi x)with
 | none=>false
 | some (c,g,types,named,least,h)=>
  decide (0<=xN x)&&decide (xN x<=g)&&decide (((xT x).length:Int)=types)&&decide (least<=((xPs x).length:Int))&&decide (((xPs x).length:Int)<=h)&&zji c (xS x)&&zd1 named (xNs x) (xPs x).length
def zlc (n:Nat) (f:Nat->Bool):Bool:=(List.range n).all f
theorem zkp (n:Nat) (f:Nat->Bool):zlc (n+1) f=(zlc n f&&f n):=by simp[zlc,YA]
theorem allB_no {n k:Nat} {f:Nat->Bool} (h:k<n) (c:f k=false):zlc n f=false:=by
 rw[zlc,List.all_eq_false];exact⟨k,Yy.2 h,by rw[c];simp⟩
def za9 (D:Nat):(d:Nat)->Int->Ex D d->Bool
 | 0,_,_=>true
 | d+1,room,x=>!decide (room=0)&&zb0 D d x&&Ju D 64 (xT x)&&zlc (xPs x).length fun i=>((xPs x)[i]?.map (za9 D d (room-if i=0/\zdn (zfi x)=true then 0 else 1))).getD true
def zab (K:Int):Int:=
 if K=21 then 1 else if K=20 then 2 else if K=18∨K=19 then 3 else if K=16∨K=17 then 4 else if K=15 then 5 else if K=13∨K=14 then 6 else if K=12∨K=9∨K=10∨K=11 then 7 else 8
def ze9 (tk:List Tok):List Tok:=tS [40]::(tk++[tS [41]])
def JM (K asked:Int) (tk:List Tok):List Tok:=if zab K<asked then ze9 tk else tk
def zjy (K:Int):List Tok:=
 if K=15 then[tS [42]]else if K=16 then[tS [43]]else if K=17 then[tS [45]]else if K=18 then[tS [61,61]]else if K=19 then[tS [60]]else if K=20 then[tW [97,110,100]]else if K=21 then[tW [111,114]]else[]
def zbv (D:Nat):(d:Nat)->Ex D d->Int
 | 0,x=>nomatch x
 | _+1,x=>zfi x
def zd3 (n:Nat) (tk:Nat->List Tok):List Tok:=tS [40]::((List.range n).flatMap (zar tk)++[tS [41]])
def litT (S:Bs) (n:Nat) (nm:Nat->Bs) (tk:Nat->List Tok):List Tok:=tT S::tS [123]::((List.range n).flatMap (zar fun i=>tN (nm i)::tS [58]::tk i)++[tS [125]])
theorem zhq (K:Int) (w:Zw):Zg 90 #[Zi K] w fun e w'=>e=.returned (.bool (twoB K))/\w'=w:=by
 by_cases c:15<=K <;> by_cases g:K<=21
 all_goals
  go_enter Tryz.func90,Tryz.ntmps90;go_wp2;go_ret;exact⟨by simp[twoB,c,g],rfl⟩
theorem zfr (K:Int) (w:Zw):Zg 89 #[Zi K] w fun e w'=>e=.returned (.bool (zdn K))/\w'=w:=by
 have c:=J3 (zhq K w);obtain⟨z,hz⟩:=Ze (twoB K)
 have g:ZH (zdn K=(decide (K=9)||decide (K=10)||decide (K=11)||decide (K=12)||z)):=by rw[hz];rfl
 rw[<-hz]at c;clear hz;have h:K=9∨K=10∨K=11∨K=12∨(K≠9/\K≠10/\K≠11/\K≠12):=by omega
 rcases h with rfl|rfl|rfl|rfl|⟨j,r,s,t⟩
 all_goals
  go_enter Tryz.func89,Tryz.ntmps89;go_wp2_with (go_at_call 90;refine c.mono ?_;clear c;rintro x w1 ⟨rfl,rfl⟩);go_ret;exact⟨by rw[J0 g];simp[*],rfl⟩
theorem level_any (K:Int) (w:Zw):Zg 129 #[Zi K] w fun e w'=>e=.returned (Zi (zab K))/\w'=w:=by
 have c:K=21∨K=20∨K=18∨K=19∨K=16∨K=17∨K=15∨K=13∨K=14∨K=12∨K=9∨K=10∨K=11∨(K≠21/\K≠20/\K≠18/\K≠19/\K≠16/\K≠17/\K≠15/\K≠13/\K≠14/\K≠12/\K≠9/\K≠10/\K≠11):=by omega
 rcases c with rfl|rfl|rfl|rfl|rfl|rfl|rfl|rfl|rfl|rfl|rfl|rfl|rfl|⟨g,h,j,r,s,t,u,x,G,I,J,L,M⟩
 all_goals
  go_enter Tryz.func129,Tryz.ntmps129;go_wp2;go_ret;exact⟨by simp[zab, *],rfl⟩
def zki (K:Int):Value:=
 match zb8 K with
 | some (c,g,types,named,least,h)=>.tuple #[.agg #[Zi c,Zi g,Zi types,.bool named,Zi least,Zi h],.bool true]
 | none=>.tuple #[.agg #[Zi 0,Zi 0,Zi 0,.bool false,Zi 2,Zi 2],.bool false]
theorem shapeOf_any (K:Int) (w:Zw):ZC 126 #[Zi K] w (zki K):=by
 have c:=J3 (fun W=>zhq K W);have h:K=1∨K=2∨K=3∨K=4∨K=5∨K=6∨K=7∨K=8∨K=9∨K=10∨K=11∨K=12∨K=13∨K=14∨(K≠1/\K≠2/\K≠3/\K≠4/\K≠5/\K≠6/\K≠7/\K≠8/\K≠9/\K≠10/\K≠11/\K≠12/\K≠13/\K≠14):=by omega
 rcases h with rfl|rfl|rfl|rfl|rfl|rfl|rfl|rfl|rfl|rfl|rfl|rfl|rfl|rfl|⟨j,r,s,t,u,G,I,J,L,M,U,V,Y,Z⟩
 rotate_right 1
 ·obtain⟨z,hz⟩:=Ze (twoB K)
  have g:ZH (zki K=.tuple #[.agg #[Zi 0,Zi 0,Zi 0,.bool false,Zi 2,Zi 2],.bool z]):=by
   show _=_;rw[hz,zki,zb8,twoB];by_cases a:15<=K <;> by_cases b:K<=21 <;> simp[*]
  rw[<-hz]at c;rw[J0 g];clear hz g;go_enter Tryz.func126,Tryz.ntmps126;go_wp2_with (go_at_call 90;refine(c _).mono ?_;clear c;rintro x w1 ⟨rfl,rfl⟩);exact Yi (v:=.tuple #[.agg #[Zi 0,Zi 0,Zi 0,.bool false,Zi 2,Zi 2],.bool z]) (by simp[results,Tryz.results126,go_sem]) rfl ⟨rfl,Za _ _⟩
 all_goals
  go_enter Tryz.func126,Tryz.ntmps126;go_wp2;exact Yi (by simp[results,Tryz.results126,go_sem];rfl) rfl ⟨rfl,Za _ _⟩
end Go.Proofs.YtdcbglnhhbmpgaaGreatDoor
namespace Go.Proofs.YtdcbglnhhbmpgaaGreatDoor
open Go Go.RowKit Lx
abbrev xwBox (b:Nat):Obj:=.cells #[.pointer (Zs b 0)] 136
abbrev xBox (A K N:Int) (S:Zy) (pt pn pp:Zo) (nt n q ct cn cp:Nat):Obj:=.cells #[Zi A,Zi K,Zi N,.string S,.slice pt nt ct,.slice pn n cn,.slice pp q cp] 62
theorem xBox.cells {W:Zw} {x:Nat} {A K N:Int} {S:Zy} {pt pn pp:Zo} {nt n q ct cn cp:Nat} (h:W.heap[x]?=some (xBox A K N S pt pn pp nt n q ct cn cp)) :
  ZL7 W x (Zi A) (Zi K) (Zi N) (.string S) (.slice pt nt ct) (.slice pn n cn) (.slice pp q cp):=
 ⟨by rw[Y0 h];rfl,by rw[Y0 h];rfl,by rw[Y0 h];rfl,by rw[Y0 h];rfl,by rw[Y0 h];rfl,by rw[Y0 h];rfl,by rw[Y0 h];rfl⟩
theorem boxes {w0 w:Zw} {b:Nat} {T:TypeId} {g:List Tok} (hw:WrAt w0.heap.size b T g w) (r:g.length<=32769) (s:ZB w0 w) (t:TypeId) (c:Array Value) (u:TypeId) (h:t≠112) (hu:u≠112) :
  Ok w0 b T (fun V=>V.heap[w.heap.size]?=some (.cells #[.pointer (Zs b 0)] t)/\V.heap[w.heap.size+1]?=some (.cells c u)) w g ((w.alloc (.cells #[.pointer (Zs b 0)] t)).alloc (.cells c u))/\Stays w0 b (fun V=>V.heap[w.heap.size]?=some (.cells #[.pointer (Zs b 0)] t)/\V.heap[w.heap.size+1]?=some (.cells c u)):=by
 have aa:=hw.lt;obtain⟨x,G⟩:=(Ok.of (I:=fun _=>True) hw r s trivial).box (.true _ _) #[.pointer (Zs b 0)] t h;obtain⟨J,ab⟩:=x.box G c u hu;obtain⟨L,M,U,Y,Z,j⟩:=J;exact⟨⟨L,M,U,Y,Z,j.1.2,by simpa using j.2⟩,(Stays.block (by omega) h).and (Stays.block (by omega) hu)⟩
theorem zh3 {w0 w:Zw} {b:Nat} {T:TypeId} {g:List Tok} (hw:WrAt w0.heap.size b T g w) (h:g.length<=32769) (j:ZB w0 w) (c:Array Value) (u:TypeId) (hu:u≠112) :
  Ok w0 b T (fun V=>V.heap[w.heap.size]?=some (.cells c u)) w g (w.alloc (.cells c u))/\Stays w0 b (fun V=>V.heap[w.heap.size]?=some (.cells c u)):=by
 have M:=hw.lt;obtain⟨r,U⟩:=(Ok.of (I:=fun _=>True) hw h j trivial).box (.true _ _) c u hu;obtain⟨s,t,x,G,J,L⟩:=r;exact⟨⟨s,t,x,G,J,L.2⟩,Stays.block (by omega) hu⟩
abbrev XPuts (w0:Zw) (b:Nat) (T:TypeId) (A K N:Int) (S:Zy) (pt pn pp:Zo) (nt n q ct cn cp:Nat) (tk:List Tok):Prop:=
 Puts w0 b T (fun _=>True) 53 #[.pointer (Zs b 0),.agg #[Zi A,Zi K,Zi N,.string S,.slice pt nt ct,.slice pn n cn,.slice pp q cp]] tk
theorem aside_any (w0:Zw) (b:Nat) (T:TypeId) (A K N:Int) (S:Zy) (pt pn pp:Zo) (nt n q ct cn cp:Nat) (tk:List Tok) (g:XPuts w0 b T A K N S pt pn pp nt n q ct cn cp tk) :
  Puts w0 b T (fun _=>True) 131 #[.pointer (Zs b 0),.agg #[Zi A,Zi K,Zi N,.string S,.slice pt nt ct,.slice pn n cn,.slice pp q cp]] (ze9 tk):=by
 intro t w hw u j _;obtain⟨r,c⟩:=boxes hw u j 136 #[Zi A,Zi K,Zi N,.string S,.slice pt nt ct,.slice pn n cn,.slice pp q cp] 62 (by decide) (by decide);have G:Puts w0 b T (fun V=>V.heap[w.heap.size]?=some (xwBox b)/\V.heap[w.heap.size+1]?=some (xBox A K N S pt pn pp nt n q ct cn cp)) 154 #[.pointer (Zs w.heap.size 0),.pointer (Zs (w.heap.size+1) 0)] tk:=by
  intro t w1 I U J s;obtain⟨c0,c1,c2,c3,c4,c5,c6⟩:=xBox.cells s.2;have d0:w1.cell? ⟨w.heap.size,0,none⟩=some (.pointer (Zs b 0)):=by rw[Y0 s.1];rfl
  have L:=J3 (g t w1 I U J trivial);clear s r c g hw j I J;go_enter Tryz.func154,Tryz.ntmps154;go_wp2_with (go_at_call 53;refine L.mono ?_;clear L;rintro x wb ⟨rfl,Y,Z,aa⟩);exact Yd (v:=.tuple #[]) (by simp[results,Tryz.results154,go_sem]) rfl ⟨rfl,Y,Z,aa⟩
 have M:=J3 ((zcc w0 b T _ c _ (fun _ _=>by kernel_rfl) _ _ [40] [41] tk G).ok (fun _ h=>h) c r);clear r c hw j u g G;go_enter Tryz.func131,Tryz.ntmps131;go_wp2_with (go_at_call 81;refine M.mono ?_;clear M;rintro x wa ⟨rfl,ok⟩);exact Yd (v:=.tuple #[]) (by simp[results,Tryz.results131,go_sem]) rfl (ok.fin rfl)
theorem zd6 (w0:Zw) (b:Nat) (T:TypeId) (A K N:Int) (S:Zy) (pt pn pp:Zo) (nt n q ct cn cp:Nat) (asked:Int) (tk:List Tok) (j:XPuts w0 b T A K N S pt pn pp nt n q ct cn cp tk) :
  Puts w0 b T (fun _=>True) 93 #[.pointer (Zs b 0),.agg #[Zi A,Zi K,Zi N,.string S,.slice pt nt ct,.slice pn n cn,.slice pp q cp],Zi asked] (JM K asked tk):=by
 intro M w hw t u _;obtain⟨r,s⟩:=zh3 hw t u #[Zi A,Zi K,Zi N,.string S,.slice pt nt ct,.slice pn n cn,.slice pp q cp] 62 (by decide);have c:=J3 (fun W=>level_any K W);obtain⟨L,G⟩:=Ze (zab K)
 rw[<-G]at c;rw[JM,<-G];clear G;by_cases h:L<asked
 ·rw[Ye h];have g:=J3 ((aside_any w0 b T A K N S pt pn pp nt n q ct cn cp tk j).ok (fun _ _=>trivial) s r);clear r s hw u t j;go_enter Tryz.func93,Tryz.ntmps93;go_wp2_with (first
   | (go_at_call 129;refine(c _).mono ?_;clear c;rintro x I ⟨rfl,rfl⟩)
   | (go_at_call 131;refine g.mono ?_;clear g;rintro x J ⟨rfl,ok⟩))
  exact Yi (v:=.tuple #[]) (by simp[results,Tryz.results93,go_sem]) rfl (ok.fin rfl)
 ·rw[Y7 h];have g:=J3 (j.ok (fun _ _=>trivial) s r);clear r s hw u t j;go_enter Tryz.func93,Tryz.ntmps93;go_wp2_with (first
   | (go_at_call 129;refine(c _).mono ?_;clear c;rintro x I ⟨rfl,rfl⟩)
   | (go_at_call 53;refine g.mono ?_;clear g;rintro x J ⟨rfl,ok⟩))
  exact Yd (v:=.tuple #[]) (by simp[results,Tryz.results93,go_sem]) rfl (ok.fin rfl)
def ExPart (w0:Zw) (b:Nat) (T:TypeId) (pp:Zo) (k:Nat) (K:Int) (tk:List Tok):Prop:=
 ∃(g o:Nat) (A N:Int) (S:Zy) (c h j:Zo) (r s t u x c3:Nat),pp=some ⟨g,o,none⟩/\w0.cell? ⟨g,o+k*7,none⟩=some (Zi A)/\w0.cell? ⟨g,o+k*7+1,none⟩=some (Zi K)/\w0.cell? ⟨g,o+k*7+2,none⟩=some (Zi N)/\w0.cell? ⟨g,o+k*7+3,none⟩=some (.string S) /\
   w0.cell? ⟨g,o+k*7+4,none⟩=some (.slice c r u)/\w0.cell? ⟨g,o+k*7+5,none⟩=some (.slice h s x)/\w0.cell? ⟨g,o+k*7+6,none⟩=some (.slice j t c3) /\
   XPuts w0 b T A K N S c h j r s t u x c3 tk
theorem args_any (w0:Zw) (b:Nat) (T:TypeId) (pl:Zo) (q s:Nat) (hq:q<=1000000) (Ks:Nat->Int) (tk:Nat->List Tok) (G:∀k,k<q->ExPart w0 b T pl k (Ks k) (tk k)) :
  Puts w0 b T (fun _=>True) 132 #[.pointer (Zs b 0),.slice pl q s] (zd3 q (fun k=>JM (Ks k) 1 (tk k))):=by
 intro ts w hw ac I _;obtain⟨J,r⟩:=boxes hw ac I 136 #[.slice pl q s] 60 (by decide) (by decide);have L:∀k:Nat,k<q->Puts w0 b T (fun V=>V.heap[w.heap.size]?=some (xwBox b)/\V.heap[w.heap.size+1]?=some (.cells #[.slice pl q s] 60)) 156 #[Zi k,.pointer (Zs w.heap.size 0),.pointer (Zs (w.heap.size+1) 0)] (JM (Ks k) 1 (tk k)):=by
  intro k hk ts w1 t M c j;obtain⟨g,o,A,N,S,p1,p2,p3,n1,n2,n3,c1,c2,c3,rfl,a0,U,a2,a3,a4,a5,Y,wt⟩:=G k hk;have d0:w1.cell? ⟨w.heap.size,0,none⟩=some (.pointer (Zs b 0)):=by rw[Y0 j.1];rfl
  have d1:w1.cell? ⟨w.heap.size+1,0,none⟩=some (.slice (Zs g o) q s):=by rw[Y0 j.2];rfl
  have m0:=(c.cell (p:=⟨g,_,none⟩) (J2 a0)).trans a0;have m1:=(c.cell (p:=⟨g,_,none⟩) (J2 U)).trans U;have m2:=(c.cell (p:=⟨g,_,none⟩) (J2 a2)).trans a2;have m3:=(c.cell (p:=⟨g,_,none⟩) (J2 a3)).trans a3;have m4:=(c.cell (p:=⟨g,_,none⟩) (J2 a4)).trans a4;have m5:=(c.cell (p:=⟨g,_,none⟩) (J2 a5)).trans a5;have m6:=(c.cell (p:=⟨g,_,none⟩) (J2 Y)).trans Y;have ad:(k:Int)<(q:Int):=by omega
  have u:=J3 ((zd6 w0 b T _ _ _ _ _ _ _ _ _ _ _ _ _ 1 _ wt).drew t M c trivial);clear j J r G hw I t c wt a0 U a2 a3 a4 a5 Y;go_enter Tryz.func156,Tryz.ntmps156;go_wp2
  go_region_with (go_at_call 93;refine u.mono ?_;clear u;rintro x wb ⟨rfl,Z,aa,ab⟩)
  all_goals
   go_wp2;exact Yd (v:=.tuple #[]) (by simp[results,Tryz.results156,go_sem]) rfl ⟨rfl,Z,aa,ab⟩
 have I1:Puts w0 b T (fun V=>V.heap[w.heap.size]?=some (xwBox b)/\V.heap[w.heap.size+1]?=some (.cells #[.slice pl q s] 60)) 155 #[.pointer (Zs w.heap.size 0),.pointer (Zs (w.heap.size+1) 0)] ((List.range q).flatMap (zar fun k=>JM (Ks k) 1 (tk k))):=by
  intro ts w1 t M c j;have d0:w1.cell? ⟨w.heap.size,0,none⟩=some (.pointer (Zs b 0)):=by rw[Y0 j.1];rfl
  have d1:w1.cell? ⟨w.heap.size+1,0,none⟩=some (.slice pl q s):=by rw[Y0 j.2];rfl
  have u:=J3 ((zgj w0 b T _ r _ (fun _ _=>by kernel_rfl) _ _ q hq _ L).drew t M c (r.drew j));clear j J r G hw I t c L;go_enter Tryz.func155,Tryz.ntmps155;go_wp2
  go_region_with (go_at_call 119;refine u.mono ?_;clear u;rintro x wb ⟨rfl,Z,aa,ab⟩)
  all_goals
   go_wp2;exact Yd (v:=.tuple #[]) (by simp[results,Tryz.results155,go_sem]) rfl ⟨rfl,Z,aa,ab⟩
 have WD:=J3 ((zcc w0 b T _ r _ (fun _ _=>by kernel_rfl) _ _ [40] [41] _ I1).ok (fun _ h=>h) r J);clear J r hw I ac G L I1;go_enter Tryz.func132,Tryz.ntmps132;go_wp2_with (go_at_call 81;refine WD.mono ?_;clear WD;rintro x wa ⟨rfl,ok⟩);exact Yd (v:=.tuple #[]) (by simp[results,Tryz.results132,go_sem]) rfl (ok.fin rfl)
theorem oper_any (w0:Zw) (b:Nat) (T:TypeId) (K:Int) (g:15<=K) (h:K<=21) :
  Puts w0 b T (fun _=>True) 130 #[.pointer (Zs b 0),Zi K] (zjy K):=by
 intro s w hw t j _;have G:K=15∨K=16∨K=17∨K=18∨K=19∨K=20∨K=21:=by omega
 rcases G with rfl|rfl|rfl|rfl|rfl|rfl|rfl
 ·have c:=J3 (JU w0 b T [42] s w hw t j trivial);clear hw j;go_enter Tryz.func130,Tryz.ntmps130;go_wp2_with (go_at_call 67;refine c.mono ?_;clear c;rintro x u ⟨rfl,g,h,r⟩);exact Yd (v:=.tuple #[]) (by simp[results,Tryz.results130,go_sem]) rfl ⟨rfl,g,h,r⟩
 ·have c:=J3 (JU w0 b T [43] s w hw t j trivial);clear hw j;go_enter Tryz.func130,Tryz.ntmps130;go_wp2_with (go_at_call 67;refine c.mono ?_;clear c;rintro x u ⟨rfl,g,h,r⟩);exact Yd (v:=.tuple #[]) (by simp[results,Tryz.results130,go_sem]) rfl ⟨rfl,g,h,r⟩
 ·have c:=J3 (JU w0 b T [45] s w hw t j trivial);clear hw j;go_enter Tryz.func130,Tryz.ntmps130;go_wp2_with (go_at_call 67;refine c.mono ?_;clear c;rintro x u ⟨rfl,g,h,r⟩);exact Yd (v:=.tuple #[]) (by simp[results,Tryz.results130,go_sem]) rfl ⟨rfl,g,h,r⟩
 ·have c:=J3 (JU w0 b T [61,61] s w hw t j trivial);clear hw j;go_enter Tryz.func130,Tryz.ntmps130;go_wp2_with (go_at_call 67;refine c.mono ?_;clear c;rintro x u ⟨rfl,g,h,r⟩);exact Yd (v:=.tuple #[]) (by simp[results,Tryz.results130,go_sem]) rfl ⟨rfl,g,h,r⟩
 ·have c:=J3 (JU w0 b T [60] s w hw t j trivial);clear hw j;go_enter Tryz.func130,Tryz.ntmps130;go_wp2_with (go_at_call 67;refine c.mono ?_;clear c;rintro x u ⟨rfl,g,h,r⟩);exact Yd (v:=.tuple #[]) (by simp[results,Tryz.results130,go_sem]) rfl ⟨rfl,g,h,r⟩
 ·have c:=J3 (JH w0 b T [97,110,100] s w hw t j trivial);clear hw j;go_enter Tryz.func130,Tryz.ntmps130;go_wp2_with (go_at_call 65;refine c.mono ?_;clear c;rintro x u ⟨rfl,g,h,r⟩);exact Yd (v:=.tuple #[]) (by simp[results,Tryz.results130,go_sem]) rfl ⟨rfl,g,h,r⟩
 ·have c:=J3 (JH w0 b T [111,114] s w hw t j trivial);clear hw j;go_enter Tryz.func130,Tryz.ntmps130;go_wp2_with (go_at_call 65;refine c.mono ?_;clear c;rintro x u ⟨rfl,g,h,r⟩);exact Yd (v:=.tuple #[]) (by simp[results,Tryz.results130,go_sem]) rfl ⟨rfl,g,h,r⟩
theorem bool_any (w0:Zw) (b:Nat) (T:TypeId) (n:Int) :
  Puts w0 b T (fun _=>True) 135 #[.pointer (Zs b 0),Zi n] [if n=0 then tW [102,97,108,115,101]else tW [116,114,117,101]]:=by
 intro t w hw u c _;have W0:=J3 (JH w0 b T [102,97,108,115,101] t w hw u c trivial);have g:=J3 (JH w0 b T [116,114,117,101] t w hw u c trivial);clear hw c;by_cases h:n=0
 ·subst h;clear g;go_enter Tryz.func135,Tryz.ntmps135;go_wp2_with (go_at_call 65;refine W0.mono ?_;clear W0;rintro x G ⟨rfl,j,r,s⟩);exact Yd (v:=.tuple #[]) (by simp[results,Tryz.results135,go_sem]) rfl ⟨rfl,j,r,s⟩
 ·clear W0;rw[Y7 h];go_enter Tryz.func135,Tryz.ntmps135;go_wp2_with (go_at_call 65;refine g.mono ?_;clear g;rintro x G ⟨rfl,j,r,s⟩);exact Yd (v:=.tuple #[]) (by simp[results,Tryz.results135,go_sem]) rfl ⟨rfl,j,r,s⟩
end Go.Proofs.YtdcbglnhhbmpgaaGreatDoor
namespace Go.Proofs.YtdcbglnhhbmpgaaGreatDoor
open Go Go.RowKit Lx
theorem twoSided_puts (w0:Zw) (b:Nat) (T:TypeId) (A K N:Int) (S:Zy) (pt pn pp:Zo) (nt n ct cn cp:Nat) (U Y:Int) (af ag:List Tok) (h1:15<=K) (h2:K<=21) (al:ExPart w0 b T pp 0 U af) (am:ExPart w0 b T pp 1 Y ag) :
  Puts w0 b T (fun _=>True) 91 #[.pointer (Zs b 0),.agg #[Zi A,Zi K,Zi N,.string S,.slice pt nt ct,.slice pn n cn,.slice pp 2 cp]] (JM U (if K=18∨K=19 then zab K+1 else zab K) af++zjy K++JM Y (zab K+1) ag):=by
 intro ts w hw ah ai _;obtain⟨M,hS⟩:=zh3 hw ah ai #[Zi A,Zi K,Zi N,.string S,.slice pt nt ct,.slice pn n cn,.slice pp 2 cp] 62 (by decide);obtain⟨g,o,A0,N0,S0,p1,p2,p3,n1,n2,n3,c1,c2,c3,rfl,a0,Z,a2,a3,a4,a5,a6,aj⟩:=al;obtain⟨g',o',A1,N1,S1,q1,q2,q3,k1,k2,k3,d1,d2,d3,e,b0,b1,b2,b3,b4,b5,b6,ak⟩:=am;obtain⟨rfl,rfl⟩:g=g'/\o=o':=by simpa using e
 have FF:ZH (∀V:Zw,ZB w0 V->(ZK7 V g o (Zi A0) (Zi U) (Zi N0) (.string S0) (.slice p1 n1 c1) (.slice p2 n2 c2) (.slice p3 n3 c3)) /\
   V.cell? ⟨g,o+7,none⟩=some (Zi A1)/\V.cell? ⟨g,o+7+1,none⟩=some (Zi Y)/\V.cell? ⟨g,o+7+2,none⟩=some (Zi N1)/\V.cell? ⟨g,o+7+3,none⟩=some (.string S1)/\V.cell? ⟨g,o+7+4,none⟩=some (.slice q1 k1 d1)/\V.cell? ⟨g,o+7+5,none⟩=some (.slice q2 k2 d2)/\V.cell? ⟨g,o+7+6,none⟩=some (.slice q3 k3 d3)):=fun V h=>
  ⟨⟨by simpa using(h.cell (p:=⟨g,_,none⟩) (J2 a0)).trans a0,by simpa using(h.cell (p:=⟨g,_,none⟩) (J2 Z)).trans Z,by simpa using(h.cell (p:=⟨g,_,none⟩) (J2 a2)).trans a2,by simpa using(h.cell (p:=⟨g,_,none⟩) (J2 a3)).trans a3,by simpa using(h.cell (p:=⟨g,_,none⟩) (J2 a4)).trans a4,by simpa using(h.cell (p:=⟨g,_,none⟩) (J2 a5)).trans a5,by simpa using(h.cell (p:=⟨g,_,none⟩) (J2 a6)).trans a6⟩,
   (h.cell (p:=⟨g,_,none⟩) (J2 b0)).trans b0,(h.cell (p:=⟨g,_,none⟩) (J2 b1)).trans b1,(h.cell (p:=⟨g,_,none⟩) (J2 b2)).trans b2,(h.cell (p:=⟨g,_,none⟩) (J2 b3)).trans b3,(h.cell (p:=⟨g,_,none⟩) (J2 b4)).trans b4,(h.cell (p:=⟨g,_,none⟩) (J2 b5)).trans b5,(h.cell (p:=⟨g,_,none⟩) (J2 b6)).trans b6⟩
 have j:=J3 (fun W=>level_any K W);obtain⟨L,hL⟩:=Ze (zab K)
 have an:1<=L/\L<=8:=by rw[hL,zab];repeat' split <;> omega
 rw[<-hL]at j ⊢;clear hL;have e1:IntKind.i64.wrap (L+1)=L+1:=by rw[YJ];omega
 obtain⟨Lx,G⟩:=Ze (if K=18∨K=19 then L+1 else L)
 rw[<-G];have r:=J3 (zd6 w0 b T _ _ _ _ _ _ _ _ _ _ _ _ _ Lx _ aj);have s:=J3 (zd6 w0 b T _ _ _ _ _ _ _ _ _ _ _ _ _ (L+1) _ ak);have t:=J3 (oper_any w0 b T K h1 h2);have c:=J3 hS;have aa:=J3 M;obtain⟨m0,m1,m2,m3,m4,m5,m6⟩:=xBox.cells M.2.2.2.2.2;obtain⟨⟨y0,y1,y2,y3,y4,y5,y6⟩,y7,y8,y9,ab,ac,ad,ae⟩:=FF _ M.2.2.1;clear M hS hw ai ah aj ak a0 Z a2 a3 a4 a5 a6 b0 b1 b2 b3 b4 b5 b6 e m0 m1 m2 m3 m4 m5 m6;have hk:(K=18/\Lx=L+1)∨(K=19/\Lx=L+1)∨(K≠18/\K≠19/\Lx=L):=by
  by_cases u:K=18
  ·exact .inl ⟨u,by rw[G,Ye (.inl u)]⟩
  ·by_cases z2:K=19
   ·exact .inr (.inl ⟨z2,by rw[G,Ye (.inr z2)]⟩)
   ·exact .inr (.inr ⟨u,z2,by rw[G,Y7 (fun h=>h.elim u z2)]⟩)
 clear G;rcases hk with⟨rfl,rfl⟩|⟨rfl,rfl⟩|⟨u,z2,rfl⟩
 ·go_enter Tryz.func91,Tryz.ntmps91;go_wp2_with (first
   | (go_at_call 129;refine(j _).mono ?_;clear j;rintro x w4 ⟨rfl,rfl⟩)
   | (go_at_call 93;refine(r.ok (fun _ _=>trivial) c aa).mono ?_;clear r;rintro x wa ⟨rfl,ok⟩;have m:=xBox.cells ok.2.2.2.2.2;obtain⟨m0,m1,m2,m3,m4,m5,m6⟩:=m;have I:=J3 ok;clear ok)
   | (go_at_call 130;refine(t.ok (fun _ _=>trivial) c I).mono ?_;clear t;rintro x wb ⟨rfl,ok⟩;have m:=xBox.cells ok.2.2.2.2.2;obtain⟨m0,m1,m2,m3,m4,m5,m6⟩:=m;obtain⟨⟨y0,y1,y2,y3,y4,y5,y6⟩,y7,y8,y9,ab,ac,ad,ae⟩:=FF _ ok.2.2.1;have J:=J3 ok;clear ok)
   | (go_at_call 93;refine(s.ok (fun _ _=>trivial) c J).mono ?_;clear s;rintro x wc ⟨rfl,ok⟩))
  exact Yd (v:=.tuple #[]) (by simp[results,Tryz.results91,go_sem]) rfl (ok.fin (by rw[J8,J8]))
 ·go_enter Tryz.func91,Tryz.ntmps91;go_wp2_with (first
   | (go_at_call 129;refine(j _).mono ?_;clear j;rintro x w4 ⟨rfl,rfl⟩)
   | (go_at_call 93;refine(r.ok (fun _ _=>trivial) c aa).mono ?_;clear r;rintro x wa ⟨rfl,ok⟩;have m:=xBox.cells ok.2.2.2.2.2;obtain⟨m0,m1,m2,m3,m4,m5,m6⟩:=m;have I:=J3 ok;clear ok)
   | (go_at_call 130;refine(t.ok (fun _ _=>trivial) c I).mono ?_;clear t;rintro x wb ⟨rfl,ok⟩;have m:=xBox.cells ok.2.2.2.2.2;obtain⟨m0,m1,m2,m3,m4,m5,m6⟩:=m;obtain⟨⟨y0,y1,y2,y3,y4,y5,y6⟩,y7,y8,y9,ab,ac,ad,ae⟩:=FF _ ok.2.2.1;have J:=J3 ok;clear ok)
   | (go_at_call 93;refine(s.ok (fun _ _=>trivial) c J).mono ?_;clear s;rintro x wc ⟨rfl,ok⟩))
  exact Yd (v:=.tuple #[]) (by simp[results,Tryz.results91,go_sem]) rfl (ok.fin (by rw[J8,J8]))
 ·have ao:(K==18)=false:=Y3.2 u;have ap:(K==19)=false:=Y3.2 z2;go_enter Tryz.func91,Tryz.ntmps91;go_wp2_with (first
   | (go_at_call 129;refine(j _).mono ?_;clear j;rintro x w4 ⟨rfl,rfl⟩)
   | (go_at_call 93;refine(r.ok (fun _ _=>trivial) c aa).mono ?_;clear r;rintro x wa ⟨rfl,ok⟩;have m:=xBox.cells ok.2.2.2.2.2;obtain⟨m0,m1,m2,m3,m4,m5,m6⟩:=m;have I:=J3 ok;clear ok)
   | (go_at_call 130;refine(t.ok (fun _ _=>trivial) c I).mono ?_;clear t;rintro x wb ⟨rfl,ok⟩;have m:=xBox.cells ok.2.2.2.2.2;obtain⟨m0,m1,m2,m3,m4,m5,m6⟩:=m;obtain⟨⟨y0,y1,y2,y3,y4,y5,y6⟩,y7,y8,y9,ab,ac,ad,ae⟩:=FF _ ok.2.2.1;have J:=J3 ok;clear ok)
   | (go_at_call 93;refine(s.ok (fun _ _=>trivial) c J).mono ?_;clear s;rintro x wc ⟨rfl,ok⟩))
  exact Yd (v:=.tuple #[]) (by simp[results,Tryz.results91,go_sem]) rfl (ok.fin (by rw[J8,J8]))
end Go.Proofs.YtdcbglnhhbmpgaaGreatDoor
