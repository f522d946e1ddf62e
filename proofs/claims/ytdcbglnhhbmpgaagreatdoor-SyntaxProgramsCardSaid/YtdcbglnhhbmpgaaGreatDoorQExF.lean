import Derived.Test.YtdcbglnhhbmpgaaGreatDoorQExE
import Derived.Test.YtdcbglnhhbmpgaaGreatDoorQExB
set_option maxHeartbeats 4000000
set_option maxRecDepth 100000
namespace Go.Proofs.YtdcbglnhhbmpgaaGreatDoor
open Go Go.RowKit Lx
theorem expr_two (w0:Zw) (b:Nat) (T:TypeId) (A K N:Int) (S:Zy) (pt pn pp:Zo) (nt n q ct cn cp:Nat) (tk:List Tok) (g:Puts w0 b T (fun _=>True) 91 #[.pointer (Zs b 0),.agg #[Zi A,Zi K,Zi N,.string S,.slice pt nt ct,.slice pn n cn,.slice pp q cp]] tk) (u:twoB K=true) :
  Puts w0 b T (fun _=>True) 53 #[.pointer (Zs b 0),.agg #[Zi A,Zi K,Zi N,.string S,.slice pt nt ct,.slice pn n cn,.slice pp q cp]] (tk):=by
 intro G w hw h j _;obtain⟨r,s⟩:=zh3 hw h j #[Zi A,Zi K,Zi N,.string S,.slice pt nt ct,.slice pn n cn,.slice pp q cp] 62 (by decide);have c:=J3 (fun W=>zhq K W);rw[u]at c;have t:=J3 (g.ok (fun _ _=>trivial) s r);clear r s hw j h g;go_enter Tryz.func53,Tryz.ntmps53;go_wp2_with (first|(go_at_call 90;refine(c _).mono ?_;clear c;rintro x I ⟨rfl,rfl⟩)|(go_at_call 91;refine t.mono ?_;clear t;rintro x J ⟨rfl,ok⟩));exact Yd (v:=.tuple #[]) (by simp[results,Tryz.results53,go_sem]) rfl (ok.fin rfl)
theorem zg7 (w0:Zw) (b:Nat) (T:TypeId) (A K N:Int) (S:Zy) (pt pn pp:Zo) (nt n q ct cn cp:Nat) (tk:List Tok) (h:Puts w0 b T (fun _=>True) 92 #[.pointer (Zs b 0),.agg #[Zi A,Zi K,Zi N,.string S,.slice pt nt ct,.slice pn n cn,.slice pp q cp]] tk) (G:twoB K=false) (I:zdn K=true) :
  Puts w0 b T (fun _=>True) 53 #[.pointer (Zs b 0),.agg #[Zi A,Zi K,Zi N,.string S,.slice pt nt ct,.slice pn n cn,.slice pp q cp]] (tk):=by
 intro J w hw j r _;obtain⟨s,t⟩:=zh3 hw j r #[Zi A,Zi K,Zi N,.string S,.slice pt nt ct,.slice pn n cn,.slice pp q cp] 62 (by decide);have c:=J3 (fun W=>zhq K W);rw[G]at c;have g:=J3 (fun W=>zfr K W);rw[I]at g;have u:=J3 (h.ok (fun _ _=>trivial) t s);clear s t hw r j h;go_enter Tryz.func53,Tryz.ntmps53;go_wp2_with (first|(go_at_call 90;refine(c _).mono ?_;clear c;rintro x L ⟨rfl,rfl⟩)|(go_at_call 89;refine(g _).mono ?_;clear g;rintro x M ⟨rfl,rfl⟩)|(go_at_call 92;refine u.mono ?_;clear u;rintro x U ⟨rfl,ok⟩));exact Yd (v:=.tuple #[]) (by simp[results,Tryz.results53,go_sem]) rfl (ok.fin rfl)
theorem zd9 (w0:Zw) (b:Nat) (T:TypeId) (A K N:Int) (S:Zy) (pt pn pp:Zo) (nt n q ct cn cp:Nat) (tk:List Tok) (h:Puts w0 b T (fun _=>True) 94 #[.pointer (Zs b 0),.agg #[Zi A,Zi K,Zi N,.string S,.slice pt nt ct,.slice pn n cn,.slice pp q cp]] tk) (G:twoB K=false) (I:zdn K=false) (J:K≠13) (L:K≠14) :
  Puts w0 b T (fun _=>True) 53 #[.pointer (Zs b 0),.agg #[Zi A,Zi K,Zi N,.string S,.slice pt nt ct,.slice pn n cn,.slice pp q cp]] (tk):=by
 intro M w hw j r _;obtain⟨s,t⟩:=zh3 hw j r #[Zi A,Zi K,Zi N,.string S,.slice pt nt ct,.slice pn n cn,.slice pp q cp] 62 (by decide);have c:=J3 (fun W=>zhq K W);rw[G]at c;have g:=J3 (fun W=>zfr K W);rw[I]at g;have u:=J3 (h.ok (fun _ _=>trivial) t s);have U:(K==13)=false:=Y3.2 J;have V:(K==14)=false:=Y3.2 L;clear s t hw r j h;go_enter Tryz.func53,Tryz.ntmps53;go_wp2_with (first|(go_at_call 90;refine(c _).mono ?_;clear c;rintro x Y ⟨rfl,rfl⟩)|(go_at_call 89;refine(g _).mono ?_;clear g;rintro x Z ⟨rfl,rfl⟩)|(go_at_call 94;refine u.mono ?_;clear u;rintro x wa ⟨rfl,ok⟩));exact Yd (v:=.tuple #[]) (by simp[results,Tryz.results53,go_sem]) rfl (ok.fin rfl)
theorem expr_neg (w0:Zw) (b:Nat) (T:TypeId) (A N:Int) (S:Zy) (pt pn pp:Zo) (nt n ct cn cp:Nat) (r:Int) (s:List Tok) (t:ExPart w0 b T pp 0 r s) :
  Puts w0 b T (fun _=>True) 53 #[.pointer (Zs b 0),.agg #[Zi A,Zi 13,Zi N,.string S,.slice pt nt ct,.slice pn n cn,.slice pp 1 cp]] (tS [45]::JM r 6 s):=by
 intro Z w hw u G _;obtain⟨g,o,A0,N0,S0,p1,p2,p3,n1,n2,n3,c1,c2,c3,rfl,I,J⟩:=t.first;obtain⟨L,c⟩:=zh3 hw u G #[Zi A,Zi 13,Zi N,.string S,.slice pt nt ct,.slice pn n cn,.slice (Zs g o) 1 cp] 62 (by decide);have h:=J3 (fun W=>zhq 13 W);rw[show twoB 13=false from rfl]at h;have j:=J3 (fun W=>zfr 13 W);rw[show zdn 13=false from rfl]at j;have M:=J3 ((JU w0 b T [45]).ok (fun _ _=>trivial) c L);have U:=J3 (zd6 w0 b T _ _ _ _ _ _ _ _ _ _ _ _ _ 6 _ I);have FF:=J3 J;have V:=J3 c;clear L c hw G u I J t;go_enter Tryz.func53,Tryz.ntmps53;go_wp2_with (first|(go_at_call 90;refine(h _).mono ?_;clear h;rintro x w4 ⟨rfl,rfl⟩)|(go_at_call 89;refine(j _).mono ?_;clear j;rintro x w5 ⟨rfl,rfl⟩)|(go_at_call 67;refine M.mono ?_;clear M;rintro x wa ⟨rfl,ok⟩;have m:=xBox.cells ok.2.2.2.2.2;obtain⟨m0,m1,m2,m3,m4,m5,m6⟩:=m;obtain⟨y0,y1,y2,y3,y4,y5,y6⟩:=FF _ ok.2.2.1;have Y:=J3 ok;clear ok)|(go_at_call 93;refine(U.ok (fun _ _=>trivial) V Y).mono ?_;clear U;rintro x wb ⟨rfl,ok⟩));exact Yd (v:=.tuple #[]) (by simp[results,Tryz.results53,go_sem]) rfl (ok.fin rfl)
theorem expr_not (w0:Zw) (b:Nat) (T:TypeId) (A N:Int) (S:Zy) (pt pn pp:Zo) (nt n ct cn cp:Nat) (r:Int) (s:List Tok) (t:ExPart w0 b T pp 0 r s) :
  Puts w0 b T (fun _=>True) 53 #[.pointer (Zs b 0),.agg #[Zi A,Zi 14,Zi N,.string S,.slice pt nt ct,.slice pn n cn,.slice pp 1 cp]] (tW [110,111,116]::JM r 6 s):=by
 intro Z w hw u G _;obtain⟨g,o,A0,N0,S0,p1,p2,p3,n1,n2,n3,c1,c2,c3,rfl,I,J⟩:=t.first;obtain⟨L,c⟩:=zh3 hw u G #[Zi A,Zi 14,Zi N,.string S,.slice pt nt ct,.slice pn n cn,.slice (Zs g o) 1 cp] 62 (by decide);have h:=J3 (fun W=>zhq 14 W);rw[show twoB 14=false from rfl]at h;have j:=J3 (fun W=>zfr 14 W);rw[show zdn 14=false from rfl]at j;have M:=J3 ((JH w0 b T [110,111,116]).ok (fun _ _=>trivial) c L);have U:=J3 (zd6 w0 b T _ _ _ _ _ _ _ _ _ _ _ _ _ 6 _ I);have FF:=J3 J;have V:=J3 c;clear L c hw G u I J t;go_enter Tryz.func53,Tryz.ntmps53;go_wp2_with (first|(go_at_call 90;refine(h _).mono ?_;clear h;rintro x w4 ⟨rfl,rfl⟩)|(go_at_call 89;refine(j _).mono ?_;clear j;rintro x w5 ⟨rfl,rfl⟩)|(go_at_call 65;refine M.mono ?_;clear M;rintro x wa ⟨rfl,ok⟩;have m:=xBox.cells ok.2.2.2.2.2;obtain⟨m0,m1,m2,m3,m4,m5,m6⟩:=m;obtain⟨y0,y1,y2,y3,y4,y5,y6⟩:=FF _ ok.2.2.1;have Y:=J3 ok;clear ok)|(go_at_call 93;refine(U.ok (fun _ _=>trivial) V Y).mono ?_;clear U;rintro x wb ⟨rfl,ok⟩));exact Yd (v:=.tuple #[]) (by simp[results,Tryz.results53,go_sem]) rfl (ok.fin rfl)
def exT (K N:Int) (S:Bs) (nm:Nat->Bs) (q:Nat) (Ks:Nat->Int) (tk:Nat->List Tok) (typ:List Tok):List Tok:=
 if twoB K=true then JM (Ks 0) (if K=18∨K=19 then zab K+1 else zab K) (tk 0)++zjy K++JM (Ks 1) (zab K+1) (tk 1)
 else if K=12 then JM (Ks 0) 7 (tk 0)++tW [116,111]::typ
 else if K=9 then JM (Ks 0) 7 (tk 0)++[tS [46],tN S]
 else if K=10 then JM (Ks 0) 7 (tk 0)++tS [46]::tN S::zd3 (q-1) (fun k=>JM (Ks (k+1)) 1 (tk (k+1)))
 else if K=11 then(if Ks 0=9 then ze9 (tk 0)else JM (Ks 0) 7 (tk 0))++zd3 (q-1) (fun k=>JM (Ks (k+1)) 1 (tk (k+1)))
 else if K=13 then tS [45]::JM (Ks 0) 6 (tk 0)
 else if K=14 then tW [110,111,116]::JM (Ks 0) 6 (tk 0)
 else if K=1 then[(0,4,[],N)]
 else if K=2 then[(0,5,S,0)]
 else if K=3 then[if N=0 then tW [102,97,108,115,101]else tW [116,114,117,101]]
 else if K=4 then[tN S]
 else if K=5 then[tW [115,101,108,102]]
 else if K=6 then tW [110,105,108]::typ
 else if K=7 then litT S q nm (fun k=>JM (Ks k) 1 (tk k))
 else if K=8 then tW [110,101,119]::litT S q nm (fun k=>JM (Ks k) 1 (tk k))
 else[]
def zj6 (D:Nat):(d:Nat)->Ex D d->List Tok
 | 0,_=>[]
 | d+1,x=>exT (zfi x) (xN x) (xS x) (fun i=>(xNs x).getD i []) (xPs x).length (fun i=>((xPs x)[i]?.map (zbv D d)).getD 0) (fun i=>((xPs x)[i]?.map (zj6 D d)).getD []) (((xT x)[0]?.map (Jf D false)).getD [])
def ExCap (W:Zw) (D:Nat):(d:Nat)->Value->List (Ex D d)->Prop
 | 0,_,_=>True
 | d+1,v,xs=>∃(p:Zo) (c:Nat),v=.slice p xs.length c/\xs.length<=c/\∀j x,xs[j]?=some x->∃(g o:Nat) (vp:Value),p=some ⟨g,o,none⟩/\W.cell? ⟨g,o+j*7+6,none⟩=some vp/\ExCap W D d vp (xPs x)
def XAt (w0:Zw) (D d:Nat):Prop:=∀(b:Nat) (T:TypeId) (A K N:Int) (S:Bs) (pt pn pp:Zo) (ct cn cp:Nat) (c:List (Ty D)) (ns:List Bs) (xs:List (Ex D d)),
 TyRow w0 D (.slice pt c.length ct) c->SRow w0 (.slice pn ns.length cn) ns->ExRow w0 D d (.slice pp xs.length cp) xs->ExCap w0 D d (.slice pp xs.length cp) xs->zh7 D d (A,K,N,S,c,ns,xs)->ExFits D d xs->(∃room,za9 D (d+1) room (A,K,N,S,c,ns,xs)=true) ->
 XPuts w0 b T A K N ⟨S.toArray⟩ pt pn pp c.length ns.length xs.length ct cn cp (zj6 D (d+1) (A,K,N,S,c,ns,xs))
def PartsX (w0:Zw) (D d:Nat):Prop:=∀(b:Nat) (T:TypeId) (pp:Zo) (cp:Nat) (xs:List (Ex D d)),ExRow w0 D d (.slice pp xs.length cp) xs->ExCap w0 D d (.slice pp xs.length cp) xs->ExFits D d xs ->
 (∀(k:Nat) (x:Ex D d),xs[k]?=some x->∃room,za9 D d room x=true)->∀k,k<xs.length->ExPart w0 b T pp k ((xs[k]?.map (zbv D d)).getD 0) ((xs[k]?.map (zj6 D d)).getD [])
theorem partsX_of (w0:Zw) (D d:Nat) (H:XAt w0 D d):PartsX w0 D (d+1):=fun b T pp cp xs L M U V k hk=>by
 obtain⟨p,c,e,hp⟩:=L;injection e with j Y Z
 subst j;obtain⟨p',c',e,_,aa⟩:=M;injection e with j Y Z
 subst j;have h:xs[k]?=some xs[k]:=by simp
 obtain⟨g,o,vt,vn,vp,rfl,a0,a1,a2,a3,a4,a5,t,u,q2,x⟩:=hp k _ h;obtain⟨g',o',ab,e,ac,ad⟩:=aa k _ h;obtain⟨rfl,rfl⟩:g=g'/\o=o':=by simpa using e
 obtain rfl:vp=ab:=Y1 (t.symm.trans ac);obtain⟨f1,f2⟩:=U.2 _ (YK h);obtain⟨G,I,rfl⟩:=u.slice;obtain⟨r,s,rfl,h2⟩:=q2;obtain⟨J,c3,rfl⟩:=x.slice;rw[h];exact⟨g,o,_,_,_,G,r,J,_,_,_,I,s,c3,rfl,a0,a1,a2,a3,a4,a5,t,H b T _ _ _ _ G r J I s c3 _ _ _ u ⟨r,s,rfl,h2⟩ x ad f1 f2 (V k _ h)⟩
theorem right_partsX {D d:Nat} {x:Ex D (d+1)} (h:∃room,za9 D (d+1) room x=true):zb0 D d x=true/\Ju D 64 (xT x)=true/\∀(k:Nat) (y:Ex D d),(xPs x)[k]?=some y->∃room,za9 D d room y=true:=by
 obtain⟨room,h⟩:=h;simp only[za9,Yc]at h;refine⟨h.1.1.2,h.1.2,fun k y c=>?_⟩;have g:k<(xPs x).length:=(YI.1 c).1;have:=Yn.1 h.2 k (Yy.2 g);rw[c]at this;exact⟨_,this⟩
theorem shapeX_le {K:Int} (h:zb8 K≠none):1<=K/\K<=21:=by
 apply Decidable.byContradiction;intro c;apply h;unfold zb8
 repeat rw[Y7 (by omega)]
theorem exprX_of (w0:Zw) (D d:Nat) (H:PartsX w0 D d):XAt w0 D d:=fun b T A K N S pt pn pp ct cn cp j ns xs hT hN hX I hs hf hr=>by
 obtain⟨u,J,ac⟩:=right_partsX hr;have PX:=H b T pp cp xs hX I hf ac;have V:1<=xs.length->xs.length<=cp:=fun r=>by
  match d,xs,I with
  | 0,[],_=>simp at r
  | d+1,xs,I=>
   obtain⟨p,c,e,h,_⟩:=I;injection e with e1 e2 e3
   omega
 have s3:za5 D j:=hs.2.2.1;have G:xs.length<=1000000:=hs.2.2.2.2.2.1;replace J:Ju D 64 j=true:=J;show XPuts w0 b T A K N ⟨S.toArray⟩ pt pn pp j.length ns.length xs.length ct cn cp (exT K N S (fun i=>ns.getD i []) xs.length (fun i=>(xs[i]?.map (zbv D d)).getD 0) (fun i=>(xs[i]?.map (zj6 D d)).getD []) ((j[0]?.map (Jf D false)).getD []));obtain⟨Ks,Y⟩:=Ze (fun i=>(xs[i]?.map (zbv D d)).getD 0:Nat->Int)
 obtain⟨tk,Z⟩:=Ze (fun i=>(xs[i]?.map (zj6 D d)).getD []:Nat->List Tok)
 have x:∀k,k<xs.length->ExPart w0 b T pp k (Ks k) (tk k):=fun k L=>by rw[Y,Z];exact PX k L
 rw[<-Y,<-Z];have ad:∀k,k<ns.length->∃g o,pn=some ⟨g,o,none⟩/\w0.cell? ⟨g,o+k,none⟩=some (.string ⟨(ns.getD k []).toArray⟩):=fun k L=>by
  obtain⟨p,c,e,hp⟩:=hN;injection e with e1 e2 e3
  subst e1;obtain⟨g,o,e,a⟩:=hp k ns[k] (by simp);exact⟨g,o,e,by rw[a,getD_at (s:=ns[k]) (by simp)]⟩
 have aa:j.length=1->TyPart w0 b T 50 pt 0 ((j[0]?.map (Jf D false)).getD []):=fun r=>by
  have h0:j[0]?=some j[0]:=by simp
  have:=(zb3 w0 D).1 b T pt ct j hT s3 ⟨64,J⟩ (by simp) 0 _ h0;rw[h0];exact this
 obtain⟨typ,ae⟩:∃t,t=(j[0]?.map (Jf D false)).getD []:=⟨_,rfl⟩
 rw[<-ae]at aa ⊢;clear Y Z ae PX H hr J ac;replace u:(match zb8 K with|none=>false|some (af,ag,types,named,least,ah)=>decide (0<=N)&&decide (N<=ag)&&decide ((j.length:Int)=types)&&decide (least<=(xs.length:Int))&&decide ((xs.length:Int)<=ah)&&zji af S&&zd1 named ns xs.length)=true:=u;have hK:1<=K/\K<=21:=by
  rcases hx:zb8 K with _|y
  ·rw[hx]at u;exact absurd u (by simp)
  ·exact shapeX_le (by rw[hx];simp)
 have L:K=1∨K=2∨K=3∨K=4∨K=5∨K=6∨K=7∨K=8∨K=9∨K=10∨K=11∨K=12∨K=13∨K=14∨15<=K:=by omega
 rcases L with rfl|rfl|rfl|rfl|rfl|rfl|rfl|rfl|rfl|rfl|rfl|rfl|rfl|rfl|ab
 ·exact zd9 w0 b T A 1 N ⟨S.toArray⟩ pt pn pp j.length ns.length xs.length ct cn cp _ (prim1 w0 b T A N S pt pn pp j.length ns.length xs.length ct cn cp) rfl rfl (by decide) (by decide)
 ·exact zd9 w0 b T A 2 N ⟨S.toArray⟩ pt pn pp j.length ns.length xs.length ct cn cp _ (prim2 w0 b T A N S pt pn pp j.length ns.length xs.length ct cn cp) rfl rfl (by decide) (by decide)
 ·exact zd9 w0 b T A 3 N ⟨S.toArray⟩ pt pn pp j.length ns.length xs.length ct cn cp _ (prim3 w0 b T A N S pt pn pp j.length ns.length xs.length ct cn cp) rfl rfl (by decide) (by decide)
 ·exact zd9 w0 b T A 4 N ⟨S.toArray⟩ pt pn pp j.length ns.length xs.length ct cn cp _ (prim4 w0 b T A N S pt pn pp j.length ns.length xs.length ct cn cp) rfl rfl (by decide) (by decide)
 ·exact zd9 w0 b T A 5 N ⟨S.toArray⟩ pt pn pp j.length ns.length xs.length ct cn cp _ (prim5 w0 b T A N S pt pn pp j.length ns.length xs.length ct cn cp) rfl rfl (by decide) (by decide)
 ·have r:j.length=1:=by simp[zb8]at u;omega
  have:=zd9 w0 b T A 6 N ⟨S.toArray⟩ pt pn pp 1 ns.length xs.length ct cn cp _ (prim6 w0 b T A N S pt pn pp ns.length xs.length ct cn cp typ (aa r)) rfl rfl (by decide) (by decide);rw[r];exact this
 ·have r:ns.length=xs.length:=by simp[zb8,zd1]at u;exact u.2.1
  have:=zd9 w0 b T A 7 N ⟨S.toArray⟩ pt pn pp j.length xs.length xs.length ct cn cp _ (prim7 w0 b T A N S pt pn pp j.length xs.length xs.length ct cn cp _ (lit_any w0 b T A 7 N S pt pn pp j.length xs.length ct cn cp G (fun i=>ns.getD i []) Ks tk (r ▸ ad) x)) rfl rfl (by decide) (by decide);rw[r];exact this
 ·have r:ns.length=xs.length:=by simp[zb8,zd1]at u;exact u.2.1
  have:=zd9 w0 b T A 8 N ⟨S.toArray⟩ pt pn pp j.length xs.length xs.length ct cn cp _ (prim8 w0 b T A N S pt pn pp j.length xs.length xs.length ct cn cp _ (lit_any w0 b T A 8 N S pt pn pp j.length xs.length ct cn cp G (fun i=>ns.getD i []) Ks tk (r ▸ ad) x)) rfl rfl (by decide) (by decide);rw[r];exact this
 ·have r:xs.length=1:=by simp[zb8]at u;omega
  have:=zg7 w0 b T A 9 N ⟨S.toArray⟩ pt pn pp j.length ns.length 1 ct cn cp _ (post_field w0 b T A N S pt pn pp j.length ns.length ct cn cp (Ks 0) (tk 0) (x 0 (by omega))) rfl rfl;rw[r];exact this
 ·have r:1<=xs.length:=by simp[zb8]at u;omega
  exact zg7 w0 b T A 10 N ⟨S.toArray⟩ pt pn pp j.length ns.length xs.length ct cn cp _ (post_call w0 b T A N S pt pn pp j.length ns.length xs.length (xs.length-1) ct cn cp (by omega) G (V r) Ks tk x) rfl rfl
 ·have r:1<=xs.length:=by simp[zb8]at u;omega
  by_cases M:Ks 0=9
  ·have:=zg7 w0 b T A 11 N ⟨S.toArray⟩ pt pn pp j.length ns.length xs.length ct cn cp _ (post_apply9 w0 b T A N S pt pn pp j.length ns.length xs.length (xs.length-1) ct cn cp (by omega) G (V r) Ks tk x M) rfl rfl;simpa[exT,twoB,M]using this
  ·have:=zg7 w0 b T A 11 N ⟨S.toArray⟩ pt pn pp j.length ns.length xs.length ct cn cp _ (post_apply w0 b T A N S pt pn pp j.length ns.length xs.length (xs.length-1) ct cn cp (by omega) G (V r) Ks tk x M) rfl rfl;simpa[exT,twoB,M]using this
 ·have r:xs.length=1:=by simp[zb8]at u;omega
  have U:j.length=1:=by simp[zb8]at u;omega
  have:=zg7 w0 b T A 12 N ⟨S.toArray⟩ pt pn pp 1 ns.length 1 ct cn cp _ (post_to w0 b T A N S pt pn pp ns.length ct cn cp (Ks 0) (tk 0) typ (x 0 (by omega)) (aa U)) rfl rfl;rw[r,U];exact this
 ·have r:xs.length=1:=by simp[zb8]at u;omega
  have:=expr_neg w0 b T A N ⟨S.toArray⟩ pt pn pp j.length ns.length ct cn cp (Ks 0) (tk 0) (x 0 (by omega));rw[r];exact this
 ·have r:xs.length=1:=by simp[zb8]at u;omega
  have:=expr_not w0 b T A N ⟨S.toArray⟩ pt pn pp j.length ns.length ct cn cp (Ks 0) (tk 0) (x 0 (by omega));rw[r];exact this
 ·have U:xs.length=2:=by
   simp[zb8,show K≠1 by omega,show K≠2 by omega,show K≠3 by omega,show K≠4 by omega,show K≠5 by omega,show K≠6 by omega,show K≠7 by omega,show K≠8 by omega,show K≠9 by omega,show K≠10 by omega,show K≠11 by omega,show K≠12 by omega,show K≠13 by omega,show K≠14 by omega,ab,hK.2]at u;omega
  have ht:twoB K=true:=by simp[twoB,ab,hK.2]
  have:=expr_two w0 b T A K N ⟨S.toArray⟩ pt pn pp j.length ns.length 2 ct cn cp _ (twoSided_puts w0 b T A K N ⟨S.toArray⟩ pt pn pp j.length ns.length ct cn cp (Ks 0) (Ks 1) (tk 0) (tk 1) ab hK.2 (x 0 (by omega)) (x 1 (by omega))) ht;rw[U,exT,Ye ht];exact this
theorem zee (w0:Zw) (D:Nat):∀d,PartsX w0 D d
 | 0=>fun _ _ _ _ xs _ _ _ _ k c=>by
  match xs with
  | []=>simp at c
  | x::_=>exact nomatch x
 | d+1=>partsX_of w0 D d (exprX_of w0 D d (zee w0 D d))
theorem writeExpr_any (w0:Zw) (D d:Nat):XAt w0 D d:=exprX_of w0 D d (zee w0 D d)
theorem partT_fits {K a:Int} {tk:List Tok} (h:Fits tk):Fits (JM K a tk):=by
 unfold JM ze9;split
 ·exact Jr (by decide) (Jd h (Jr (by decide) Ji))
 ·exact h
theorem zlh {n:Nat} {f:Nat->List Tok} (h:∀i,Fits (f i)):Fits ((List.range n).flatMap (zar f)):=zj0 fun i _=>by
 unfold zar;split
 ·exact Jd (Jr (by decide) Ji) (h i)
 ·exact Jd Ji (h i)
theorem argsT_fits {n:Nat} {f:Nat->List Tok} (h:∀i,Fits (f i)):Fits (zd3 n f):=Jr (by decide) (Jd (zlh h) (Jr (by decide) Ji))
theorem litT_fits {S:Bs} {n:Nat} {nm:Nat->Bs} {f:Nat->List Tok} (c:S.length<=35184372088832) (g:∀i,(nm i).length<=35184372088832) (h:∀i,Fits (f i)):Fits (litT S n nm f):=
 Jr c (Jr (by decide) (Jd (zlh fun i=>Jr (g i) (Jr (by decide) (h i))) (Jr (by decide) Ji)))
theorem operT_fits (K:Int):Fits (zjy K):=by
 unfold zjy
 repeat' split
 all_goals first|exact Jr (by decide) Ji|exact Ji
theorem iteF {p:Prop} [Decidable p] {a b:List Tok} (c:Fits a) (g:Fits b):Fits (if p then a else b):=by
 by_cases h:p
 ·rw[Ye h];exact c
 ·rw[Y7 h];exact g
theorem exT_fits {K N:Int} {S:Bs} {nm:Nat->Bs} {q:Nat} {Ks:Nat->Int} {tk:Nat->List Tok} {typ:List Tok} (c:S.length<=35184372088832) (h0:-9223372036854775808<=N) (h1:N<=9223372036854775807) (g:∀i,(nm i).length<=35184372088832) (h:∀i,Fits (tk i)) (j:Fits typ):Fits (exT K N S nm q Ks tk typ):=by
 have hp:=fun i a=>partT_fits (K:=Ks i) (a:=a) (h i)
 rw[exT];by_cases r:twoB K=true
 ·rw[Ye r];exact Jd (Jd (hp _ _) (operT_fits _)) (hp _ _)
 rw[Y7 r];by_cases s:K=12
 ·rw[Ye s];exact Jd (hp _ _) (Jr (by decide) j)
 rw[Y7 s];by_cases t:K=9
 ·rw[Ye t];exact Jd (hp _ _) (Jr (by decide) (Jr c Ji))
 rw[Y7 t];by_cases u:K=10
 ·rw[Ye u];exact Jd (hp _ _) (Jr (by decide) (Jr c (argsT_fits fun i=>hp _ _)))
 rw[Y7 u];by_cases x:K=11
 ·rw[Ye x];exact Jd (iteF (Jr (by decide) (Jd (h 0) (Jr (by decide) Ji))) (hp _ _)) (argsT_fits fun i=>hp _ _)
 rw[Y7 x];by_cases G:K=13
 ·rw[Ye G];exact Jr (by decide) (hp _ _)
 rw[Y7 G];by_cases I:K=14
 ·rw[Ye I];exact Jr (by decide) (hp _ _)
 rw[Y7 I];by_cases J:K=1
 ·rw[Ye J];exact fits_cons ⟨Xr _,h0,h1⟩ Ji
 rw[Y7 J];by_cases L:K=2
 ·rw[Ye L];exact Jr c Ji
 rw[Y7 L];by_cases M:K=3
 ·rw[Ye M];by_cases z:N=0
  ·rw[Ye z];exact Jr (by decide) Ji
  ·rw[Y7 z];exact Jr (by decide) Ji
 rw[Y7 M];by_cases U:K=4
 ·rw[Ye U];exact Jr c Ji
 rw[Y7 U];by_cases V:K=5
 ·rw[Ye V];exact Jr (by decide) Ji
 rw[Y7 V];by_cases Y:K=6
 ·rw[Ye Y];exact Jr (by decide) j
 rw[Y7 Y];by_cases Z:K=7
 ·rw[Ye Z];exact litT_fits c g fun i=>hp _ _
 rw[Y7 Z];by_cases aa:K=8
 ·rw[Ye aa];exact Jr (by decide) (litT_fits c g fun i=>hp _ _)
 rw[Y7 aa];exact Ji
theorem zmk (D:Nat):∀(d:Nat) (xs:List (Ex D d)),ExFits D d xs->∀x∈xs,Fits (zj6 D d x)
 | 0,_,_,x,_=>nomatch x
 | d+1,xs,h,x,g=>by
  obtain⟨⟨s1,s2,j,u,r,G,s,t⟩,hp⟩:=h.2 x g;exact exT_fits s1 s t (fun i=>zkh r) (fun i=>zi1 fun a c=>zmk D d _ hp a c) (zi1 fun a c=>zcd D false _ j a c)
def zcn (D d:Nat) (x:Ex D (d+1)):Sum Nat Bs:=if za9 D (d+1) 64 x=true then join (Jc [] (zj6 D (d+1) x))else .inl 1
theorem ExCap.below {w w':Zw} {D:Nat} (r:ZB w w'):∀(d:Nat) {v:Value} {xs:List (Ex D d)},ExCap w D d v xs->ExCap w' D d v xs
 | 0,_,_,h=>h
 | d+1,v,xs,h=>by
  obtain⟨p,c,rfl,u,hp⟩:=h;refine⟨p,c,rfl,u,fun j t x=>?_⟩;obtain⟨g,o,vp,rfl,s,G⟩:=hp j t x;exact⟨g,o,vp,rfl,(r.cell (p:=⟨g,_,none⟩) (J2 s)).trans s,ExCap.below r d G⟩
theorem Expr_any (D d:Nat) (A K N:Int) (S:Bs) (pt pn pp:Zo) (ct cn cp:Nat) (c:List (Ty D)) (ns:List Bs) (xs:List (Ex D d)) (w:Zw) (U:TyRow w D (.slice pt c.length ct) c) (V:SRow w (.slice pn ns.length cn) ns) (Y:ExRow w D d (.slice pp xs.length cp) xs) (rc:ExCap w D d (.slice pp xs.length cp) xs)
  (J:zh7 D d (A,K,N,S,c,ns,xs)) (L:ExFits D d xs) (Z:Tab w) (h5:4<=w.heap.size) :
  ZC 28 #[.agg #[Zi A,Zi K,Zi N,.string ⟨S.toArray⟩,.slice pt c.length ct,.slice pn ns.length cn,.slice pp xs.length cp]] w (JI (zcn D d (A,K,N,S,c,ns,xs))):=by
 have aa:ExVal w D d (.agg #[Zi A,Zi K,Zi N,.string ⟨S.toArray⟩,.slice pt c.length ct,.slice pn ns.length cn,.slice pp xs.length cp]) (A,K,N,S,c,ns,xs):=⟨pt,pn,pp,ct,cn,cp,rfl,U,V,Y⟩
 obtain⟨O,hO⟩:=Ze (xBox A K N ⟨S.toArray⟩ pt pn pp c.length ns.length xs.length ct cn cp:Obj)
 have r:ZB w (w.alloc O):=(Yu _ _).alloc (Y5 _) O;have g:=J3 (zfk D d _ _ 64 (w.alloc O) (aa.below r) J L (by omega) (by omega) (Z.below r h5) (by simp;omega));obtain⟨X,t⟩:∃X:Ex D (d+1),X=(A,K,N,S,c,ns,xs):=⟨_,rfl⟩
 have HA:ZH (zcn D d X=if za9 D (d+1) 64 X=true then join (Jc [] (zj6 D (d+1) X))else .inl 1):=rfl;have ab:zh7 D d X/\ExFits D d (xPs X):=t ▸ ⟨J,L⟩;rw[<-t]at g ⊢;by_cases h:za9 D (d+1) 64 X=true
 ·rw[Ye h]at HA;rw[h]at g;obtain⟨s,y,hj⟩:=zcl (join (Jc [] (zj6 D (d+1) X)));have CL:ZH (∀w1:Zw,Below (w.alloc O).heap.size (w.alloc O) w1->(w1.alloc (.cells #[Zz] 80)).heap[w.heap.size]?=some O /\
    Zg 53 #[.pointer (Zs w1.heap.size 0),.agg #[Zi A,Zi K,Zi N,.string ⟨S.toArray⟩,.slice pt c.length ct,.slice pn ns.length cn,.slice pp xs.length cp]] (w1.alloc (.cells #[Zz] 80)) fun e w'=>e=.returned (.tuple #[])/\ZB w w' /\
     Zg 37 #[.pointer (Zs w1.heap.size 0)] w' fun e ae=>e=.returned (.tuple #[.string s,Zi y])/\ZB w ae):=fun w1 G=>by
   have I:ZB w w1:=r.trans (G.mono (by simp));have af:=I.size;have j:w1.heap[w.heap.size]?=some O:=(G.block _ (by simp)).trans (Jm _ _);replace j:=(((Yu w1.heap.size w1).alloc (Y5 _) (.cells #[Zz] 80)).block _ (Y8.1 j).1).trans j;refine⟨j,?_⟩;have ha:ZB w1 (w1.alloc (.cells #[Zz] 80)):=Za _ _;refine(writeExpr_any w1 D d w1.heap.size 80 A K N S pt pn pp ct cn cp c ns xs (TyRow.below I D U) (V.below I) (ExRow.below I d Y) (ExCap.below I d rc) J L ⟨64,t ▸ h⟩ [] _ (WrAt.new w1 _ (by decide)) (by simp) ha trivial).mono ?_;rintro x w2 ⟨rfl,ad,ag,_⟩;have M:ZB w w2:=I.trans ((ha.trans ag).mono af);refine⟨rfl,M,?_⟩;rw[<-t]at ad;rw[<-hj];refine(zih _ _ _ _ w2 ad (zah _ _ (by simp)) (zi4 _ _ Ji (zmk D (d+1) [X] ⟨by simp,fun u hu=>by rw[Xg]at hu;rw[hu];exact ab⟩ X (by simp))) (Z.below M h5) (by have:=M.size;omega)).mono ?_;rintro x w3 ⟨rfl,ac⟩;exact⟨rfl,Zn M ac⟩
  have HJ:=J3 hj;clear hj aa J L Z r U V Y rc t ab;rw[hO]at CL g;clear hO;go_enter Tryz.func28,Tryz.ntmps28;go_wp2_with (first
   | (go_at_call 52;refine g.mono ?_;clear g;rintro x w1 ⟨rfl,G⟩;obtain⟨j,wt⟩:=CL w1 G;obtain⟨f0,f1,f2,f3,f4,f5,f6⟩:=xBox.cells j;have WT:=J3 wt;clear wt CL j)
   | (go_at_call 53;refine WT.mono ?_;clear WT;rintro x w2 ⟨rfl,M,tx⟩;have TX:=J3 tx;clear tx)
   | (go_at_call 37;refine TX.mono ?_;clear TX;rintro x w3 ⟨rfl,ac⟩))
  go_ret2;exact⟨by rw[J0 HA,J0 HJ];rfl,ac⟩
 ·have h:=(Yb _).mp h;rw[Y7 (by rw[h];simp)]at HA;rw[h]at g;have HB:=J3 r;clear aa J L Z r U V Y rc t ab;rw[hO]at g HB;clear hO;go_enter Tryz.func28,Tryz.ntmps28;go_wp2_with (go_at_call 52;refine g.mono ?_;clear g;rintro x w1 ⟨rfl,G⟩);go_ret2;exact⟨by rw[J0 HA];rfl,HB.trans (G.mono (by simp))⟩
end Go.Proofs.YtdcbglnhhbmpgaaGreatDoor
