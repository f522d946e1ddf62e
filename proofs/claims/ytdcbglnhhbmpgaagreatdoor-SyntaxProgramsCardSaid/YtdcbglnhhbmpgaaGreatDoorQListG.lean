import Derived.Test.YtdcbglnhhbmpgaaGreatDoorQToldS
import Derived.Test.YtdcbglnhhbmpgaaGreatDoorQStW
set_option maxHeartbeats 4000000
set_option maxRecDepth 100000
namespace Go.Proofs.YtdcbglnhhbmpgaaGreatDoor
open Go Go.RowKit Lx
def Kept (H0:Zw) (b0:Option Nat) (W:Zw):Prop:=H0.heap.size<=W.heap.size/\∀j,j<H0.heap.size->some j≠b0->W.heap[j]?=H0.heap[j]?
theorem Kept.refl (H0:Zw) (b0:Option Nat):Kept H0 b0 H0:=⟨Y5 _,fun _ _ _=>rfl⟩
theorem Kept.below {H0 W W':Zw} {b0:Option Nat} (h:Kept H0 b0 W) (c:ZB W W'):Kept H0 b0 W':=
 ⟨Yh h.1 c.size,fun j g r=>(c.block j (Yz g h.1)).trans (h.2 j g r)⟩
theorem Kept.cell {H0 W:Zw} {b0:Option Nat} (h:Kept H0 b0 W) {j o:Nat} (c:j<H0.heap.size) (g:some j≠b0):W.cell? ⟨j,o,none⟩=H0.cell? ⟨j,o,none⟩:=World.cell?_of_block (h.2 j c g)
def Else (H0:Zw) (b0:Option Nat) (v:Value):Prop:=∀g,v.ownBlock=some g->g<H0.heap.size/\some g≠b0
theorem Kept.row {H0 W:Zw} {b0:Option Nat} (h:Kept H0 b0 W) {v:Value} {L:List Bs} (r:SRow H0 v L) (he:Else H0 b0 v):SRow W v L:=by
 obtain⟨p,c,rfl,hp⟩:=r;refine⟨p,c,rfl,fun j t s=>?_⟩;obtain⟨g,o,rfl,a⟩:=hp j t s;obtain⟨u,x⟩:=he g rfl;exact⟨g,o,rfl,(h.cell u x).trans a⟩
def XCo (H0:Zw) (b0:Option Nat) (base s0 z:Nat) (pre:Option Value) (L0:List Bs) (l:List Link) (f:Nat->Option Value) (W:Zw):Prop:=
 XCh base s0 z pre L0 l f W/\Kept H0 b0 W/\∀h,Js f s0 pre l=some h->h.ownBlock=b0∨∀g,h.ownBlock=some g->H0.heap.size<=g
theorem XCo.other {H0:Zw} {b0:Option Nat} {base s0 z i:Nat} {pre:Option Value} {L0:List Bs} {l:List Link} {f:Nat->Option Value} {W W':Zw} {v:Value} (hz:i=z->Js f s0 pre l=some v) (c:s0≠i) (g:∀k∈l,k.1≠i/\k.2.1≠i) (h:XCo H0 b0 base s0 z pre L0 l f W) (j:ZB W W'):XCo H0 b0 base s0 z pre L0 l (JT f i v) W':=by
 refine⟨XCh.other hz c g h.1 j,h.2.1.below j,fun x r=>?_⟩;rw[zfj v c fun k s=>(g k s).1]at r;exact h.2.2 x r
theorem XCo.source {H0:Zw} {b0:Option Nat} {base s0 z i:Nat} {pre:Option Value} {L0 M:List Bs} {l:List Link} {f:Nat->Option Value} {W W':Zw} {v:Value} (hz:z≠i) (c:s0≠i) (j:∀k∈l,k.1≠i/\(k.2.1=i->k.2.2=M)) (h:XCo H0 b0 base s0 z pre L0 l f W) (r:ZB W W') (t:SRow W' v M) (u:∀g,v.ownBlock=some g->W.heap.size<=g/\g<W'.heap.size):XCo H0 b0 base s0 z pre L0 l (JT f i v) W':=by
 refine⟨XCh.source hz c j h.1 r t u,h.2.1.below r,fun x s=>?_⟩;rw[zfj v c fun k G=>(j k G).1]at s;exact h.2.2 x s
theorem XCo.old {H0:Zw} {b0:Option Nat} {vx:Value} {LX:List Bs} {base s0 z i:Nat} {pre:Option Value} {L0:List Bs} {l:List Link} {f:Nat->Option Value} {W:Zw} (hz:z≠i) (V:s0≠i) (s:∀k∈l,k.1≠i/\(k.2.1=i->k.2.2=LX)) (Y:SRow H0 vx LX) (he:Else H0 b0 vx) (h:XCo H0 b0 base s0 z pre L0 l f W):XCo H0 b0 base s0 z pre L0 l (JT f i vx) W:=by
 obtain⟨t,G,L⟩:=h;have I:=zfj (f:=f) (pre:=pre) (l:=l) vx V fun k c=>(s k c).1
 have Z:=G.row Y he;have J:∀g,vx.ownBlock=some g->g<W.heap.size:=fun g J=>Yz (he g J).1 G.1
 refine⟨⟨fun x j=>?_,fun k c e u hu=>?_,fun x j=>?_⟩,G,fun x j=>L x (by rw[<-I];exact j)⟩
 ·rw[I];rw[J7 f vx hz]at j;exact t.1 x j
 ·rw[J7 f vx (s k c).1]at e;by_cases r:k.2.1=i
  ·rw[r,Jn]at hu;obtain rfl:=Y1 hu;rw[(s k c).2 r];exact⟨Z,J⟩
  ·rw[J7 f vx r]at hu;exact t.2.1 k c e u hu
 ·rw[I]at j;rw[zgd vx _ _ fun k c=>(s k c).1];obtain⟨q1,q2⟩:=t.2.2 x j;refine⟨q1,fun k c e u hu g M=>?_⟩;rw[J7 f vx (s k c).1]at e;by_cases r:k.2.1=i
  ·rw[r,Jn]at hu;obtain rfl:=Y1 hu;obtain⟨t1,t2⟩:=he g M;intro U;rcases L x j with y|y
   ·exact t2 (U.symm.trans y)
   ·have:=y g U;omega
  ·rw[J7 f vx r]at hu;exact q2 k c e u hu g M
theorem XCo.start {H0:Zw} {b0:Option Nat} {base s0 z:Nat} {pre:Option Value} {L0:List Bs} {l:List Link} {f:Nat->Option Value} {W:Zw} {v:Value} (hp:pre=some v) (g:f s0=none) (hz:z≠s0) (t:f z=none) (j:∀k∈l,f k.1=none) (s:∀k∈l,k.1≠s0/\k.2.1≠s0) (h:XCo H0 b0 base s0 z pre L0 l f W):XCo H0 b0 base s0 z pre L0 l (JT f s0 v) W:=by
 refine⟨XCh.start hp g hz t j s h.1,h.2.1,fun x c=>?_⟩;have u:x=v:=by
  unfold Js at c;rw[Jn]at c;simp only at c;rw[zhz v _ _ fun k G=>(s k G).1]at c
  cases l with
  | nil=>exact(Y1 c).symm
  | cons k r=>
   unfold Jw at c;rw[j k (by simp)]at c;exact(Y1 c).symm
 subst u;exact h.2.2 x (by unfold Js;rw[g];exact hp)
theorem XCo.app {H0:Zw} {b0:Option Nat} {base s0 z c s:Nat} {pre:Option Value} {L0 M:List Bs} {l:List Link} {f:Nat->Option Value} {W:Zw} {h u:Value} (hz:z≠c) (ab:f z=none) (r:XCo H0 b0 base s0 z pre L0 l f W) (I:(c,s,M)∈l) (t:Js f s0 pre l=some h) (J:f c=none) (hu:f s=some u) (hm:0<M.length) (L:base<=W.heap.size) (U:(Jk f L0 l).length+M.length<=1000000)
  (ac:∀k∈l,k.2.1≠c) (V:∀v,Js (JT f c v) s0 pre l=some v/\Jk (JT f c v) L0 l=Jk f L0 l++M) :
  ∃(v:Value) (W':Zw),(Builtin.append_ #[27,27] 27 #[h,u]).run Tryz.prog W=.ok v W'/\XCo H0 b0 base s0 z pre L0 l (JT f c v) W'/\Below base W W':=by
 obtain⟨v,W',E,ad,Y⟩:=XCh.app hz ab r.1 I t J hu hm L U ac V;refine⟨v,W',E,⟨ad,?_,?_⟩,Y⟩
 all_goals
  obtain⟨q1,_⟩:=r.1.2.2 h t;obtain⟨Z,_⟩:=r.1.2.1 _ I J u hu;have ae:=Z;obtain⟨p,cp,rfl,hp⟩:=Z;obtain⟨g0,o0,rfl,_⟩:=hp 0 M[0] (by simp);obtain⟨g,cap,W4,E',hL⟩:=Left.appends q1 L U hm ae;rw[E]at E';obtain⟨rfl,rfl⟩:v=.slice (Zs g 0) ((Jk f L0 l).length+M.length) cap/\W'=W4:=by
   injection E' with e1 e2
   exact⟨e1,e2⟩
 ·refine⟨Yh r.2.1.1 Y.size,fun j G aa=>?_⟩;refine(hL.2.2.1 j (Yz G r.2.1.1) fun e'=>?_).trans (r.2.1.2 j G aa);rcases r.2.2 h t with y|y
  ·exact aa (e'.trans y)
  ·have:=y j e'.symm;omega
 ·intro x hx;rw[(V _).1]at hx;obtain rfl:=Y1 hx;rcases hL.2.2.2 with y|y
  ·rw[y];exact r.2.2 h t
  ·exact .inr fun j G=>Yh r.2.1.1 (y j G)
section
variable {H0:Zw} {b0:Option Nat} {P:Program} {ops:Array Oper} {Q:Exit->Act->Zw->Prop} {a0:Act} {n base s0 z:Nat} {B:Zw->Prop} {vs:List (Option Value)} {pre:Option Value} {L0:List Bs} {l:List Link} {i:Nat} {o:Oper}
theorem Qk (J:∀W W',B W->ZB W W'->B W') (hz:z≠i) (L:s0≠i) (M:∀k∈l,k.1≠i/\k.2.1≠i)
  (h:∀(a:Act) (w:Zw) (f:Nat->Option Value),a.tmps.size=n->(∀t,noB ops t=true->a.tmps.getD t undef=a0.tmps.getD t undef)->(∀t j,(ops[j]?).bind (·.dst)=some t->f j=none->a.tmps.getD t undef=a0.tmps.getD t undef)->(B w/\Kept H0 b0 w)->f i=none->(∀i j,Region.waitsFor .any ops i j=true->f i≠none->f j≠none) ->
   (∀j d x,(ops[j]?).bind (·.dst)=some d->Region.waitsFor .any ops i j=true->vs.getD j none=some x->a.tmps.getD d undef=x) ->
   Region.wanted o (yielded ops a.tmps)=true/\o.wp P a w (fun g w'=>∃v,g=a.put o.dst v/\ZB w w'/\vs.getD i none=some v) Q) :
  YGoal P ops Q a0 n B (VP vs) (XCo H0 b0 base s0 z pre L0 l) i o:=fun a w f U h2 V Y r s G Z down h8=>by
 obtain⟨k1,k2⟩:=h a w f U V Y ⟨r,G.2.1⟩ Z down fun j d x c hw hx=>VP.at (W:=w) (s j _ (h8 j d c hw)) hx
 refine⟨k1,Xo ?_ k2⟩;rintro g w' ⟨v,rfl,I,hv⟩;exact⟨v,rfl,J _ _ r I,VP.is v _ hv,fun j u c=>s j u c,XCo.other (fun e=>absurd e.symm hz) L M G I⟩
theorem Ql {M:List Bs} (L:∀W W',B W->ZB W W'->B W') (hz:z≠i) (U:s0≠i) (V:∀k∈l,k.1≠i/\(k.2.1=i->k.2.2=M)) (Y:vs.getD i none=none)
  (h:∀(a:Act) (w:Zw),a.tmps.size=n->(∀t,noB ops t=true->a.tmps.getD t undef=a0.tmps.getD t undef)->(B w/\Kept H0 b0 w) ->
   (∀j d x,(ops[j]?).bind (·.dst)=some d->Region.waitsFor .any ops i j=true->vs.getD j none=some x->a.tmps.getD d undef=x) ->
   Region.wanted o (yielded ops a.tmps)=true/\o.wp P a w (fun r w'=>∃v,r=a.put o.dst v/\ZB w w'/\SRow w' v M/\∀g,v.ownBlock=some g->w.heap.size<=g/\g<w'.heap.size) Q) :
  YGoal P ops Q a0 n B (VP vs) (XCo H0 b0 base s0 z pre L0 l) i o:=fun a w f Z h2 h3 aa s G I ab down h8=>by
 obtain⟨k1,k2⟩:=h a w Z h3 ⟨s,I.2.1⟩ fun j d x c hw hx=>VP.at (W:=w) (G j _ (h8 j d c hw)) hx
 refine⟨k1,Xo ?_ k2⟩;rintro r w' ⟨v,rfl,J,hv,hg⟩;exact⟨v,rfl,L _ _ s J,Qe v _ Y,fun j u c=>G j u c,XCo.source hz U V I J hv hg⟩
theorem OGoal.old {vx:Value} {LX:List Bs} {x:Operand} (hz:z≠i) (c:s0≠i) (g:∀k∈l,k.1≠i/\(k.2.1=i->k.2.2=LX)) (h:vs.getD i none=none) (j:o.guard=none) (r:o.op=.move x) (s:SRow H0 vx LX) (he:Else H0 b0 vx)
  (u:∀(a:Act),(∀t,noB ops t=true->a.tmps.getD t undef=a0.tmps.getD t undef)->a.eval x=vx) :
  YGoal Tryz.prog ops Q a0 n B (VP vs) (XCo H0 b0 base s0 z pre L0 l) i o:=fun a _ _ _ _ G _ I J L _ _ _=>
 ⟨J1 j,Jp r (u a G) ⟨vx,rfl,I,Qe vx _ h,J,XCo.old hz c g s he L⟩⟩
theorem Qm {v:Value} {x:Operand} (hp:pre=some v) (hz:z≠i) (h:∀k∈l,k.1≠i/\k.2.1≠i) (r:vs.getD i none=none) (s:o.guard=none) (u:o.op=.move x)
  (G:∀f:Nat->Option Value,(∀i j,Region.waitsFor .any ops i j=true->f i≠none->f j≠none)->f i=none->f z=none/\∀k∈l,f k.1=none)
  (I:∀(a:Act) (f:Nat->Option Value),(∀t,noB ops t=true->a.tmps.getD t undef=a0.tmps.getD t undef)->(∀t j,(ops[j]?).bind (·.dst)=some t->f j=none->a.tmps.getD t undef=a0.tmps.getD t undef)->f z=none->a.eval x=v) :
  YGoal Tryz.prog ops Q a0 n B (VP vs) (XCo H0 b0 base i z pre L0 l) i o:=fun a w f Z h2 J L M U V c down h8=>by
 obtain⟨g,Y⟩:=G f down c;exact⟨J1 s,Jp u (I a f J L g) ⟨v,rfl,M,Qe v _ r,U,XCo.start hp c hz g Y h V⟩⟩
theorem Qn {M Lq:List Bs} {q s c g:Nat} (I:∀W W',B W->Below base W W'->B W') (J:∀W,B W->base<=W.heap.size) (hz:z≠i) (L:vs.getD i none=none) (U:o.guard=none)
  (V:o.op=.call { callee:=.builtin .append,args:=#[.tmp c,.tmp g],argTypes:=#[27,27] }) (Y:o.type=27)
  (Z:(i,s,M)∈l) (hm:0<M.length) (hn:Lq.length+M.length<=1000000) (aa:∀k∈l,k.2.1≠i) (hq:(ops[q]?).bind (·.dst)=some c) (ab:Region.waitsFor .any ops i q=true) (hs:(ops[s]?).bind (·.dst)=some g) (ac:Region.waitsFor .any ops i s=true)
  (nx:∀(f:Nat->Option Value) (v:Value),(∀i j,Region.waitsFor .any ops i j=true->f i≠none->f j≠none)->f i=none->f q=some v->f z=none/\Js f s0 pre l=some v/\Jk f L0 l=Lq/\∀x,Js (JT f i x) s0 pre l=some x/\Jk (JT f i x) L0 l=Lq++M) :
  YGoal Tryz.prog ops Q a0 n B (VP vs) (XCo H0 b0 base s0 z pre L0 l) i o:=fun a w f h1 h2 h3 ad h h5 h6 r down t=>by
 have eq:=t q c hq ab;have es:=t s g hs ac;obtain⟨n0,n1,u,G⟩:=nx f _ down r eq;obtain⟨v,W',E,hX,hb⟩:=XCo.app hz n0 h6 Z n1 r es hm (J _ h) (by rw[u];exact hn) aa fun x=>⟨(G x).1,by rw[(G x).2,u]⟩
 refine⟨J1 U,zin V rfl rfl (by rw[Y];exact E) ⟨v,rfl,I _ _ h hb,Qe v _ L,h5,hX⟩⟩
theorem Qo {q c:Nat} (g:s0≠i) (h:∀k∈l,k.1≠i/\k.2.1≠i) (r:vs.getD i none=none) (s:o.guard=none) (t:o.op=.assign (.tmp c)) (u:(ops[q]?).bind (·.dst)=some c) (x:Region.waitsFor .any ops i q=true)
  (G:∀(f:Nat->Option Value) (v:Value),(∀i j,Region.waitsFor .any ops i j=true->f i≠none->f j≠none)->f q=some v->Js f s0 pre l=some v) :
  YGoal Tryz.prog ops Q a0 n B (VP vs) (XCo H0 b0 base s0 i pre L0 l) i o:=fun _ _ f _ _ _ _ I J L _ down M=>
 ⟨J1 s,zhv t rfl ⟨_,rfl,I,Qe _ _ r,J,XCo.other (fun _=>G f _ down (M q c u x)) g h L Zr⟩⟩
end
def zh5 (b:List Bs):List Bs:=[123]::(b++[[125]])
def stL (K:Int) (S:Bs) (ty x b e:List Bs) (ne:Nat):List Bs:=
 if K=4 then[[105,102]]++x++zh5 b++(if 0<ne then[[101,108,115,101]]++zh5 e else[])
 else if K=5 then[[119,104,105,108,101]]++x++zh5 b
 else(if K=1 then[[108,101,116],S]++ty++[[61]]else if K=2 then[S,[61]]else if K=3 then[[112,114,105,110,116]]else if K=6 then[[114,101,116,117,114,110]]else[])++x++[[59]]
theorem stT_map (K:Int) (S:Bs) (ty x b e:List Tok) (ne:Nat):(stT K S ty x b e ne).map J5=stL K S (ty.map J5) (x.map J5) (b.map J5) (e.map J5) ne:=by
 unfold stT stL zh5;by_cases c:K=4
 ·rw[Ye c,Ye c];by_cases h:0<ne
  ·rw[Ye h,Ye h];simp[zap,JC]
  ·rw[Y7 h,Y7 h];simp[zap,JC]
 ·rw[Y7 c,Y7 c];by_cases g:K=5
  ·rw[Ye g,Ye g];simp[zap,JC]
  ·rw[Y7 g,Y7 g];by_cases j:K=1
   ·rw[Ye j,Ye j];simp[zap,JC,zdl]
   ·rw[Y7 j,Y7 j];by_cases r:K=2
    ·rw[Ye r,Ye r];simp[JC,zdl]
    ·rw[Y7 r,Y7 r];by_cases s:K=3
     ·rw[Ye s,Ye s];simp[zap,JC]
     ·rw[Y7 s,Y7 s];by_cases t:K=6
      ·rw[Ye t,Ye t];simp[zap,JC]
      ·rw[Y7 t,Y7 t];simp[JC]
def stS (D d m:Nat) (c:List (St D d m)):List Bs:=(zes D d m c).map J5
def Run (H0:Zw) (b0:Option Nat) (base:Nat) (W:Zw) (v:Value) (A:List Bs):Prop:=
 W.ownsRow base 9 1 v A.length (za8 A)/\base<=W.heap.size/\Kept H0 b0 W/\(v.ownBlock=b0∨∀g,v.ownBlock=some g->H0.heap.size<=g)
theorem Run.init {H0:Zw} {base:Nat} {v:Value} {A:List Bs} (h:H0.ownsRow base 9 1 v A.length (za8 A)) (c:base<=H0.heap.size):Run H0 v.ownBlock base H0 v A:=⟨h,c,Kept.refl _ _,.inl rfl⟩
theorem Run.below {H0 W W':Zw} {b0:Option Nat} {base:Nat} {v:Value} {A:List Bs} (h:Run H0 b0 base W v A) (c:ZB W W'):Run H0 b0 base W' v A:=
 ⟨h.1.kept (Je c) (zan _),Yh h.2.1 c.size,h.2.2.1.below c,h.2.2.2⟩
theorem Run.app {H0 W:Zw} {b0:Option Nat} {base:Nat} {v:Value} {A M:List Bs} {g0 x G:Nat} (h:Run H0 b0 base W v A) (V:SRow W (.slice (Zs g0 x) M.length G) M) (hm:0<M.length) (Y:A.length+M.length<=1000000) :
  ∃(g n cap:Nat) (c:Zw),(Builtin.append_ #[27,27] 27 #[v,.slice (Zs g0 x) M.length G]).run Tryz.prog W=.ok (.slice (Zs g 0) n cap) c/\Run H0 b0 base c (.slice (Zs g 0) n cap) (A++M)/\Below base W c:=by
 obtain⟨Z,I,r,J⟩:=h;obtain⟨g,cap,c,E,s⟩:=Left.appends Z I Y hm V;have u:=s.2.1;refine⟨g,_,cap,c,E,⟨by simpa using s.1,Yh I u.size,⟨Yh r.1 u.size,fun j t L=>?_⟩,?_⟩,u⟩
 ·refine(s.2.2.1 j (Yz t r.1) fun U=>?_).trans (r.2 j t L);rcases J with y|y
  ·exact L (U.trans y)
  ·have:=y j U.symm;omega
 ·rcases s.2.2.2 with y|y
  ·rw[y];exact J
  ·exact .inr fun j t=>Yh r.1 (y j t)
theorem Run.one {H0 W:Zw} {b0:Option Nat} {base:Nat} {v:Value} {A:List Bs} (h:Run H0 b0 base W v A) (s:Bs) (j:A.length+1<=1000000) :
  ∃(g n cap:Nat) (c:Zw),(Builtin.append_ #[27,27] 27 #[v,.slice (Zs W.heap.size 0) 1 1]).run Tryz.prog (W.alloc (.cells #[.string ⟨s.toArray⟩] 9))=.ok (.slice (Zs g 0) n cap) c/\Run H0 b0 base c (.slice (Zs g 0) n cap) (A++[s])/\Below base W c:=by
 obtain⟨g,n,cap,c,E,r,t⟩:=(h.below (al1 W (.cells #[.string ⟨s.toArray⟩] 9))).app (M:=[s]) (Qb (zc4 W s)) (by simp) j;exact⟨g,n,cap,c,E,r,((al1 W (.cells #[.string ⟨s.toArray⟩] 9)).mono h.2.1).trans t⟩
theorem Run.two {H0 W:Zw} {b0:Option Nat} {base:Nat} {v:Value} {A:List Bs} (h:Run H0 b0 base W v A) (s t:Bs) (j:A.length+2<=1000000) :
  ∃(g n cap:Nat) (c:Zw),(Builtin.append_ #[27,27] 27 #[v,.slice (Zs W.heap.size 0) 2 2]).run Tryz.prog (W.alloc (.cells #[.string ⟨s.toArray⟩,.string ⟨t.toArray⟩] 9))=.ok (.slice (Zs g 0) n cap) c/\Run H0 b0 base c (.slice (Zs g 0) n cap) (A++[s,t])/\Below base W c:=by
 obtain⟨g,n,cap,c,E,r,u⟩:=(h.below (al1 W (.cells #[.string ⟨s.toArray⟩,.string ⟨t.toArray⟩] 9))).app (M:=[s,t]) (src2 W s t).1 (by simp) j;exact⟨g,n,cap,c,E,r,((al1 W (.cells #[.string ⟨s.toArray⟩,.string ⟨t.toArray⟩] 9)).mono h.2.1).trans u⟩
theorem Run.take {H0 W:Zw} {b0:Option Nat} {base:Nat} {v:Value} {A M:List Bs} {g0 c j:Nat} (h:Run H0 b0 base W v A) (s:SRow H0 (.slice (Zs g0 c) M.length j) M) (he:Else H0 b0 (.slice (Zs g0 c) M.length j)) (hm:0<M.length) (t:A.length+M.length<=1000000) :
  ∃(g n cap:Nat) (r:Zw),(Builtin.append_ #[27,27] 27 #[v,.slice (Zs g0 c) M.length j]).run Tryz.prog W=.ok (.slice (Zs g 0) n cap) r/\Run H0 b0 base r (.slice (Zs g 0) n cap) (A++M)/\Below base W r:=h.app (h.2.2.1.row s he) hm t
theorem XCo.run {H0:Zw} {b0:Option Nat} {base s0 z:Nat} {v:Value} {L0:List Bs} {l:List Link} {W:Zw} (h:Run H0 b0 base W v L0):XCo H0 b0 base s0 z (some v) L0 l (fun _=>none) W:=
 ⟨Qd fun _ e=>Y1 e ▸ h.1,h.2.2.1,fun _ e=>Y1 e ▸ h.2.2.2⟩
theorem behind0 {LA LT:List Bs} {w W w1:Zw} {v u:Value} (G:ZB w W) (g:W.ownsRow w.heap.size 9 1 v LA.length (za8 LA)) (h:ZB W w1) (hu:w1.ownsRow W.heap.size 9 1 u LT.length (za8 LT)) (J:LA.length+LT.length<=1000000) :
  ∃(r:Value) (s:Zw),(Builtin.append_ #[27,27] 27 #[v,u]).run Tryz.prog w1=.ok r s/\s.ownsRow w.heap.size 9 1 r (LA++LT).length (za8 (LA++LT))/\ZB w s:=by
 rcases X1 LT.length with t|t
 ·obtain⟨i0,L,V,Y,Z⟩:=Xx zi0;obtain rfl:=YB t;obtain⟨p,c,rfl,M⟩:=Jh g;obtain⟨I,x,rfl,_⟩:=Jh hu;have U:Src Tryz.prog i0.size 27 (.slice I 0 x) 0 [] w1:=by
   cases I with
   | none=>exact Src.ofNil w1 Tryz.underlying27 x
   | some a=>exact Src.ofSlice w1 Tryz.underlying27 a 0 x [] (by simp) (fun j u hu=>by simp at hu) (fun u hu=>by simp at hu)
  refine⟨_,w1,run_append_nothing w1 27 27 27 9 i0 Tryz.underlying27 L p LA.length c M _ U,?_,bon G h⟩;rw[X7];exact g.kept (Je h) (zan _)
 ·exact behind G g h hu t J
theorem zjj (p:Zo) (n c:Nat) (L:List Bs) (w:Zw) (hl:L.length<=900000) (t:∀W,ZB w W->Leaves 72 #[.slice p n c] W L):Leaves 45 #[.slice p n c] w (zh5 L):=by
 have x:=J3 (t _ (al1 w (.cells #[.string ⟨#[123]⟩] 9)));have G:=J3 (zc4 w [123]);clear t;go_enter Tryz.func45,Tryz.ntmps45;go_wp2_with fail;refine x.mono ?_;rintro _ w1 ⟨⟨u,rfl,hu⟩,I⟩;obtain⟨r,W4,E,J,h⟩:=behind0 (LA:=[[123]]) (al1 w (.cells #[.string ⟨#[123]⟩] 9)) G I hu (by simp;omega);obtain⟨g,cap,Y,M,j⟩:=Left.append (s:=[125]) J h.size (by simp;omega);obtain⟨pu,cu,rfl,_⟩:=Jh hu;have U:=J3 E;have V:=J3 M;have Z:ZH (Y.ownsRow w.heap.size 9 1 (.slice (Zs g 0) (([[123]]++L).length+1) cap) (zh5 L).length (za8 (zh5 L))):=J3 (by simpa[zh5]using j.1);have HB:=J3 (h.trans j.2.1);clear E M j J h hu I x G;go_wp2_with (first
  | (at_builtin;refine J4 rfl (.tmp 3) (.tmp 5) 27 rfl rfl rfl U ?_;clear U)
  | (at_builtin;refine J4 rfl (.tmp 6) (.tmp 7) 27 rfl rfl rfl V ?_;clear V))
 go_ret;exact⟨⟨_,rfl,Z⟩,HB⟩
section
variable {o:Oper} {a:Act} {w:Zw} {K:Act->Zw->Prop} {Q:Exit->Act->Zw->Prop}
theorem zku {x:Operand} {b i:Nat} (j:i<7) (c:o.op=.fieldAddr 124 x i) (g:a.eval x=.pointer (Zs b 0)) (h:K (a.put o.dst (.pointer (Zs b i))) w):o.wp Tryz.prog a w K Q:=by
 unfold Oper.wp
 match i,j with
 | 0,_=>simp only[execOp,c,g];go_simp;exact h
 | 1,_=>simp only[execOp,c,g];go_simp;exact h
 | 2,_=>simp only[execOp,c,g];go_simp;exact h
 | 3,_=>simp only[execOp,c,g];go_simp;exact h
 | 4,_=>simp only[execOp,c,g];go_simp;exact h
 | 5,_=>simp only[execOp,c,g];go_simp;exact h
 | 6,_=>simp only[execOp,c,g];go_simp;exact h
theorem ze3 {x:Operand} {b i:Nat} {p:Zo} {n c:Nat} (g:o.op=.load 32 x) (j:a.eval x=.pointer (Zs b i)) (r:w.cell? ⟨b,i,none⟩=some (.slice p n c)) (h:K (a.put o.dst (.slice p n c)) w):o.wp Tryz.prog a w K Q:=by
 unfold Oper.wp;simp only[execOp,g,j];go_simp;exact h
end
theorem zfc (args:Array Value) (w:Zw):Sem.run Tryz.prog (callFunc 45 args) w=.ok (.enter 45 args) w:=by kernel_rfl
theorem cn_types {D:Nat}:∀c:List (Ty D),cn (c.flatMap (Jf D false))<=4*szL D c
 | []=>by simp[JJ,szL]
 | t::r=>by
  have h:=zdu D false t;have g:=cn_types r;rw[X6,Jo];simp only[szL,Yf,YM]at g ⊢;omega
theorem cn_first {D d:Nat} (xs:List (Ex D d)):cn ((xs[0]?.map (zj6 D d)).getD [])<=9*zdp D d xs:=by
 cases xs with
 | nil=>simp[JJ]
 | cons x r=>
  have c:=ex_cnt D d x;show cn (zj6 D d x)<=_;simp only[zdp,Yf,YM];omega
theorem stT_cnt (K:Int) (S:Bs) (ty x b e:List Tok) (ne:Nat):cn (stT K S ty x b e ne)<=6+cn ty+cn x+cn b+cn e:=by
 unfold stT;by_cases c:K=4
 ·rw[Ye c];by_cases h:0<ne
  ·rw[Ye h];simp only[Jj,Jo,JJ];omega
  ·rw[Y7 h];simp only[Jj,Jo,JJ];omega
 ·rw[Y7 c];by_cases g:K=5
  ·rw[Ye g];simp only[Jj,Jo,JJ];omega
  ·rw[Y7 g];by_cases j:K=1
   ·rw[Ye j];simp only[Jj,Jo,JJ];omega
   ·rw[Y7 j];by_cases r:K=2
    ·rw[Ye r];simp only[Jj,Jo,JJ];omega
    ·rw[Y7 r];by_cases s:K=3
     ·rw[Ye s];simp only[Jj,Jo,JJ];omega
     ·rw[Y7 s];by_cases t:K=6
      ·rw[Ye t];simp only[Jj,Jo,JJ];omega
      ·rw[Y7 t];simp only[Jj,Jo,JJ];omega
theorem st_cnt (D d:Nat):∀(m:Nat) (c:List (St D d m)),cn (zes D d m c)<=9*zeh D d m c
 | 0,_=>by simp[zes,JJ]
 | m+1,c=>by
  rw[zes,zeh]
  induction c with
  | nil=>simp[JJ]
  | cons s r g=>
   rw[X6,Jo,Yf,YM];have h:=stT_cnt (zii s) (zb4 s) ((sT s).flatMap (Jf D false)) (((sX s)[0]?.map (zj6 D d)).getD []) (zes D d m (sB s)) (zes D d m (sE s)) (sE s).length;have j:=cn_types (sT s);have t:=cn_first (sX s);have u:=st_cnt D d m (sB s);have x:=st_cnt D d m (sE s);omega
theorem stS_le (D d m:Nat) (c:List (St D d m)):(stS D d m c).length<=9*zeh D d m c:=by
 have:=st_cnt D d m c;rw[stS,Xy];exact this
theorem zg3 {K:Int} {S:Bs} {t x b e:Nat} {tk:Bool} (h:zet K S t x b e tk=true):x=1/\(1<=K/\K<=7)/\(K=1->t<=1/\tk=true)/\(K=2->tk=true)/\(K≠1->t=0):=by
 unfold zet at h;rw[Yc,Xb]at h;obtain⟨u,h⟩:=h;refine⟨u,?_⟩;by_cases c:K=1
 ·subst c;simp at h;exact⟨by omega,fun _=>⟨by omega,h.2⟩,fun h=>by omega,fun h=>absurd rfl h⟩
 rw[Y7 c]at h;by_cases g:K=2
 ·subst g;simp at h;exact⟨by omega,fun h=>by omega,fun _=>h.2,fun _=>by omega⟩
 rw[Y7 g]at h;by_cases j:K=3∨K=6∨K=7
 ·rw[Ye j]at h;simp at h;exact⟨by omega,fun h=>absurd h c,fun h=>absurd h g,fun _=>by omega⟩
 rw[Y7 j]at h;by_cases r:K=4
 ·rw[Ye r]at h;simp at h;exact⟨by omega,fun h=>absurd h c,fun h=>absurd h g,fun _=>by omega⟩
 rw[Y7 r]at h;by_cases s:K=5
 ·rw[Ye s]at h;simp at h;exact⟨by omega,fun h=>absurd h c,fun h=>absurd h g,fun _=>by omega⟩
 rw[Y7 s]at h
 cases h
theorem zfy {D d m:Nat} {room:Int} {c:List (St D d (m+1))} (h:za2 D d (m+1) room c=true):∀s∈c,zfg D d m s=true/\Ju D 64 (sT s)=true/\(∀x∈(sX s),(sX s).length=1->za9 D d 64 x=true)/\za2 D d m (room-1) (sB s)=true/\za2 D d m (room-1) (sE s)=true:=fun s r=>by
 rw[za2,Yn]at h;have:=h s r;simp only[Yc]at this;obtain⟨⟨⟨⟨⟨_,t⟩,u⟩,g⟩,G⟩,I⟩:=this;refine⟨t,u,fun x j J=>?_,G,I⟩;obtain⟨y,L⟩:=Xq.1 J;rw[L]at j g;obtain rfl:x=y:=by simpa using j
 exact g
theorem iteB {p:Prop} [Decidable p] {P:List Tok->Prop} {a b:List Tok} (c:p->P a) (g:¬p->P b):P (if p then a else b):=by
 by_cases h:p
 ·rw[Ye h];exact c h
 ·rw[Y7 h];exact g h
theorem stT_short {B:Nat} {K:Int} {S:Bs} {ty x b e:List Tok} {ne:Nat} (L:25<=B) (h:S.length<=B) (s:Sh B ty) (g:Sh B x) (j:Sh B b) (t:Sh B e):Sh B (stT K S ty x b e ne):=by
 have c:1<=B:=by omega
 have u:2<=B:=by omega
 have G:3<=B:=by omega
 have I:4<=B:=by omega
 have r:5<=B:=by omega
 have J:6<=B:=by omega
 unfold stT;refine iteB (P:=Sh B) (fun _=>?_) fun _=>iteB (P:=Sh B) (fun _=>?_) fun _=>?_
 ·exact sh_W u (Jy (Jy g (zjp c (Jy j (zjp c zak)))) (zjv (sh_W I (zjp c (Jy t (zjp c zak)))) zak))
 ·exact sh_W r (Jy g (zjp c (Jy j (zjp c zak))))
 ·exact Jy (zjv (sh_W G (sh_N h (Jy s (zjp c zak)))) (zjv (sh_N h (zjp c zak)) (zjv (sh_W r zak) (zjv (sh_W J zak) zak)))) (Jy g (zjp c zak))
theorem st_short (D d Z:Nat):∀(m:Nat) (room:Int) (c:List (St D d m)),za2 D d m room c=true->zeh D d m c<=Z->Sh (20*Z+25) (zes D d m c)
 | 0,_,_,_,_=>zak
 | m+1,room,c,j,hz=>zjm fun s h=>by
  obtain⟨r,L,u,G,I⟩:=zfy j s h;obtain⟨f1,_⟩:=zg3 r;have M:1+(zb4 s).length+szL D (sT s)+zdp D d (sX s)+zeh D d m (sB s)+zeh D d m (sE s)<=Z:=by
   refine Yh ?_ hz;rw[zeh];exact zbu (YF.2 ⟨s,h,rfl⟩)
  refine stT_short (by omega) (by omega) (zjm fun t J x g=>?_) (sh_opt fun x g=>?_) (st_short D d Z m _ _ G (by omega)) (st_short D d Z m _ _ I (by omega))
  ·have g1:=zm3 g;have g2:=zkk D false t;have g3:szD D t<=szL D (sT s):=zdk J;unfold fl at g2;omega
  ·have g3:szX D d x<=zdp D d (sX s):=zbu (YF.2 ⟨x,g,rfl⟩);exact ex_short D Z d x ⟨_,u x g f1⟩ (by omega)
theorem stT_sound {K:Int} {S:Bs} {ty x b e:List Tok} {ne:Nat} (g:K=1∨K=2->sound (tN S)=true) (j:ty.all sound=true) (c:x.all sound=true) (h:b.all sound=true) (r:e.all sound=true):(stT K S ty x b e ne).all sound=true:=by
 unfold stT;refine iteB (P:=fun l=>l.all sound=true) (fun _=>?_) fun _=>iteB (P:=fun l=>l.all sound=true) (fun _=>?_) fun _=>?_
 ·exact Jv (by decide +kernel) (zao (zao c (Jv (by decide +kernel) (zao h (by decide +kernel)))) (snd_ite (Jv (by decide +kernel) (Jv (by decide +kernel) (zao r (by decide +kernel)))) rfl))
 ·exact Jv (by decide +kernel) (zao c (Jv (by decide +kernel) (zao h (by decide +kernel))))
 ·refine zao (iteB (P:=fun l=>l.all sound=true) (fun k=>?_) fun _=>iteB (P:=fun l=>l.all sound=true) (fun k=>?_) fun _=>snd_ite (by decide +kernel) (snd_ite (by decide +kernel) rfl)) (zao c (by decide +kernel))
  ·exact Jv (by decide +kernel) (Jv (g (.inl k)) (zao j (by decide +kernel)))
  ·exact Jv (g (.inr k)) (by decide +kernel)
theorem st_sound (D d:Nat):∀(m:Nat) (room:Int) (g:List (St D d m)),za2 D d m room g=true->(zes D d m g).all sound=true
 | 0,_,_,_=>rfl
 | m+1,room,g,h=>by
  rw[zes,List.all_flatMap,Yn];intro s j;obtain⟨r,u,G,I,J⟩:=zfy h s j;obtain⟨f1,_,f3,f4,_⟩:=zg3 r;refine stT_sound (fun c=>?_) ?_ (zey fun x L=>ex_sound D d x ⟨_,G x L f1⟩) (st_sound D d m _ _ I) (st_sound D d m _ _ J)
  ·rcases c with c|c
   ·exact(f3 c).2
   ·exact f4 c
  ·rw[List.all_flatMap,Yn];exact fun t M=>ze0 D false t 64 (zeu u t M)
theorem zgy {α β:Type} (f:α->List β):∀l:List α,(List.range l.length).flatMap (fun i=>(l[i]?.map f).getD [])=l.flatMap f
 | []=>rfl
 | x::r=>by
  have c:=zgy f r;rw[Yk,List.range_succ_eq_map,X6,List.flatMap_map,X6,<-c]
  rfl
def vS22 (bx:Nat) (vb:Value):List (Option Value):=[none,none,none,none,none,some (.pointer (Zs bx 5)),some (vb),none,none,none]
def vS24 (bx:Nat) (vb:Value):List (Option Value):=[none,none,none,none,none,some (.pointer (Zs bx 5)),some (vb),none,none,none]
def vS26 (bx:Nat) (vb:Value):List (Option Value):=[none,none,none,some (.pointer (Zs bx 6)),some (vb),none,none,none]
def LL (c:Nat->List Bs) (k:Nat):List Bs:=(List.range k).flatMap c
theorem zhp (c:Nat->List Bs) (k:Nat):LL c (k+1)=LL c k++c k:=by unfold LL;rw[YA,YO];simp
theorem LL_le (c:Nat->List Bs) {k n:Nat} (h:k<=n):(LL c k).length<=(LL c n).length:=by
 induction n with
 | zero=>rw[Nat.le_zero.1 h];exact Y5 _
 | succ n g=>
  rcases Nat.eq_or_lt_of_le h with e|e
  ·rw[e];exact Y5 _
  ·have:=g (by omega);rw[zhp,Y9];omega
def LSt (w:Zw) (p:Zo) (k:Nat) (L:List Bs):Prop:=
 ∃(g o:Nat) (A K:Int) (S:Bs) (pt px pb pe:Zo) (t b e ct cx cb ce:Nat) (LT LX J LE:List Bs),p=some ⟨g,o,none⟩/\1<=K/\K<=7 /\
  (ZK7 w g (o+k*7) (Zi A) (Zi K) (.string ⟨S.toArray⟩) (.slice pt t ct) (.slice px 1 cx) (.slice pb b cb) (.slice pe e ce)) /\
  (∃(g o:Nat) (M c U:Int) (S':Zy) (h j r:Zo) (s u x G I c3:Nat),px=some ⟨g,o,none⟩/\(ZK7 w g o (Zi M) (Zi c) (Zi U) (.string S') (.slice h s G) (.slice j u I) (.slice r x c3))/\0<LX.length /\
   ∀W,ZB w W->Leaves 116 #[.agg #[Zi M,Zi c,Zi U,.string S',.slice h s G,.slice j u I,.slice r x c3]] W LX) /\
  (K=1->(t=0/\LT=[])∨(t=1/\∃(g o:Nat) (c:Int) (S':Zy) (h j r:Zo) (s u x G I c3:Nat),pt=some ⟨g,o,none⟩/\(ZK5 w g o (Zi c) (.string S') (.slice h s G) (.slice j u I) (.slice r x c3))/\0<LT.length /\
   ∀W,ZB w W->Leaves 34 #[.agg #[Zi c,.string S',.slice h s G,.slice j u I,.slice r x c3]] W LT)) /\
  (K=4∨K=5->∀W,ZB w W->Leaves 45 #[.slice pb b cb] W (zh5 J)) /\
  (K=4->0<e->∀W,ZB w W->Leaves 45 #[.slice pe e ce] W (zh5 LE)) /\
  L=stL K S LT LX J LE e
theorem app_slice {W:Zw} {base n:Nat} {v:Value} {xs:List Value} (h:W.ownsRow base 9 1 v n xs):∃p c,v=.slice p n c:=by
 obtain⟨p,c,e,_⟩:=Jh h;exact⟨p,c,e⟩
theorem lst_run (p:Zo) (n c:Nat) (w:Zw) (Y:Nat->List Bs) (cX:n<=1000000) (b2:(LL Y n).length<=400000) (b3:∀k,k<n->LSt w p k (Y k)) :
  Leaves 72 #[.slice p n c] w (LL Y n):=by
 have bJ:=J3 b3;have bK:=J3 b2;clear b3 b2;go_enter Tryz.func72,Tryz.ntmps72;go_wp2
 go_loopw [3,4] (fun o i wr=>∃(k:Nat) (aS:Value),i=Zi k/\aS=o/\k<=n/\ZH (wr.ownsRow w.heap.size 9 1 aS (LL Y k).length (za8 (LL Y k))/\ZB w wr)) (fun _ i _=>n-(intOf i).toNat)
 case atStart=>exact⟨0,_,rfl,rfl,by omega,YU _ _ _ _,Zr⟩
 case round=>
  obtain⟨k,aS,rfl,rfl,b4,bL⟩:=hrel;obtain⟨bM,Z⟩:=J0 bL;by_cases aG:k<n
  rotate_left
  ·obtain rfl:k=n:=by omega
   have cu:¬(k:Int)<(k:Int):=by omega
   have cv:=J3 bM;have a':=J3 Z;clear bL Z bJ bK;go_wp2;go_ret;exact⟨⟨_,rfl,cv⟩,a'⟩
  have cu:(k:Int)<(n:Int):=by omega
  obtain⟨g,o,A,K,S,pt,px,pb,pe,t,b,e,ct,cx,cb,ce,LT,LX,ae,LE,rfl,cw,cy,⟨a0,bN,a2,a3,a4,a5,bO⟩,⟨aY,cz,cY,cZ,c0,S',c1,c2,c4,be,ba,bf,c5,c6,c3,rfl,⟨bP,bQ,bR,bS,bT,bU,bV⟩,aT,b5⟩,bg,b6,b7,b8⟩:=bJ k aG;have ah:(LL Y k).length+(Y k).length<=400000:=by
   have aH:=LL_le Y (show k+1<=n by omega);have b9:=J0 bK;rw[zhp,Y9]at aH;omega
  have ab:=(Z.cell (p:=⟨g,_,none⟩) (J2 a0)).trans a0;have cA:=(Z.cell (p:=⟨g,_,none⟩) (J2 bN)).trans bN;have I:=(Z.cell (p:=⟨g,_,none⟩) (J2 a2)).trans a2;have cB:=(Z.cell (p:=⟨g,_,none⟩) (J2 a3)).trans a3;have U:=(Z.cell (p:=⟨g,_,none⟩) (J2 a4)).trans a4;have cC:=(Z.cell (p:=⟨g,_,none⟩) (J2 a5)).trans a5;have aP:=(Z.cell (p:=⟨g,_,none⟩) (J2 bO)).trans bO;have aQ:ZB w (wr.alloc (sBox A K ⟨S.toArray⟩ pt (Zs aY cz) pb pe t 1 b e ct cx cb ce)):=Z.alloc Z.size _;have cD:=(aQ.cell (p:=⟨aY,_,none⟩) (J2 bP)).trans bP;have cE:=(aQ.cell (p:=⟨aY,_,none⟩) (J2 bQ)).trans bQ;have cF:=(aQ.cell (p:=⟨aY,_,none⟩) (J2 bR)).trans bR;have cG:=(aQ.cell (p:=⟨aY,_,none⟩) (J2 bS)).trans bS;have cH:=(aQ.cell (p:=⟨aY,_,none⟩) (J2 bT)).trans bT;have cI:=(aQ.cell (p:=⟨aY,_,none⟩) (J2 bU)).trans bU;have cJ:=(aQ.cell (p:=⟨aY,_,none⟩) (J2 bV)).trans bV;have b':=J3 (b5 _ aQ);have cK:=J3 aQ;have aU:=J3 bg;have aR:=J3 b6;have a7:=J3 b7;have bW:=J3 b8;have ca:=J3 ah;have bz:=J3 bM;have cL:=J3 Z;clear a0 bN a2 a3 a4 a5 bO bP bQ bR bS bT bU bV aQ b5 bg b6 b7 b8 ah bL bJ bK bM Z;go_wp2_with fail;refine b'.mono ?_;rintro _ w1 ⟨⟨u,rfl,hu⟩,bh⟩;obtain⟨cM,cN,rfl⟩:=za6 hu aT;obtain⟨d0,d1,d2,d3,d4,d5,d6⟩:=JA bh;obtain⟨b0,bA⟩:=Ze aS.ownBlock
  have aw:=J3 (bon cK bh);have aj:ZH (Run w1 b0 w.heap.size w1 aS (LL Y k)):=by
   rw[bA];exact Run.init ((bz.alloc _).kept (Je bh) (zan _)) aw.size
  have ax:=J3 (Qb hu);have ay:ZH (Else w1 b0 (.slice (Zs cM 0) LX.length cN)):=fun g aZ=>⟨(hu.lt g aZ).2,fun e=>by
   have aH:=(bz.lt g (by rw[<-bA];exact e.symm)).2;have b9:=(hu.lt g aZ).1;simp at b9;omega⟩
  have aI:ZH (wr.heap.size<w1.heap.size/\some wr.heap.size≠b0):=⟨by have:=bh.size;simp at this;omega,fun e=>by
   have aH:=(bz.lt _ (by rw[<-bA];exact e.symm)).2;omega⟩
  have aL:ZH (∀W,Kept w1 b0 W->W.cell? ⟨wr.heap.size,3,none⟩=some (.slice pt t ct)/\W.cell? ⟨wr.heap.size,5,none⟩=some (.slice pb b cb)/\W.cell? ⟨wr.heap.size,6,none⟩=some (.slice pe e ce)):=fun W bX=>⟨(bX.cell aI.1 aI.2).trans d3,(bX.cell aI.1 aI.2).trans d5,(bX.cell aI.1 aI.2).trans d6⟩
  obtain⟨L0,bB⟩:=Ze (LL Y k)
  have ao:ZH (LL Y (k+1)=L0++stL K S LT LX ae LE e):=by show _=_;rw[zhp,bB,<-J0 bW]
  have aq:ZH (L0.length+(stL K S LT LX ae LE e).length<=400000):=by show _<=_;rw[bB,<-J0 bW];exact ca
  rw[<-bB]at aj;obtain⟨cc,cd,aV⟩:=app_slice aj.1;subst aV;clear bB bA bW ca bz cL hu bh b' ab cA I cB U cC aP cD cE cF cG cH cI cJ;have b4:K=1∨K=2∨K=3∨K=4∨K=5∨K=6∨K=7:=by omega
  clear cw cy;rcases b4 with rfl|rfl|rfl|rfl|rfl|rfl|rfl
  ·have ah:L0.length+(stL 1 S LT LX ae LE e).length<=400000:=J0 aq;have af:(stL 1 S LT LX ae LE e).length=2+LT.length+1+LX.length+1:=by simp[stL];omega
   obtain⟨g1,be,bC,bb,az,ar,aA⟩:=aj.two [108,101,116] S (by omega);obtain⟨f3,_,_⟩:=aL bb ar.2.2.1;have ap:=J3 az;have bD:=J3 ar;have bi:=J3 (aw.trans aA);clear az ar aA;rcases J0 aU rfl with⟨rfl,rfl⟩|⟨rfl,gt,c7,c8,c9,c',da,db,m1,m2,m3,s1,s2,dc,rfl,⟨t0,t1,t2,t3,t4⟩,cf,bg⟩
   ·obtain⟨g2,ba,bj,bk,ak,al,am⟩:=bD.one [61] (by first|omega|(simp;omega));obtain⟨g3,bf,bE,bF,aB,aC,aD⟩:=al.take ax ay aT (by simp at af ⊢;omega);obtain⟨g4,cO,cP,cQ,bl,bm,bn⟩:=aC.one [59] (by simp at af ⊢;omega);have an:=J3 ak;have aE:=J3 aB;have bo:=J3 bl;have aa:=bm.1;rw[show(((L0++[[108,101,116],S])++[[61]])++LX)++[[59]]=LL Y (k+1) by rw[J0 ao];simp[stL]]at aa;have ai:=J3 aa;have aM:=J3 (((bi.trans am).trans aD).trans bn);clear aa ak aB bl al aC bm am aD bn ah af aj ax ay aI aL aw ao aq aU aR a7 bD bi;go_wp2_with (first
     | (at_builtin;refine J4 rfl (.tmp 26) (.tmp 29) 27 rfl rfl rfl ap ?_;clear ap)
     | (at_builtin;refine J4 rfl (.tmp 42) (.tmp 43) 27 rfl rfl rfl an ?_;clear an)
     | (at_builtin;refine J4 rfl (.tmp 44) (.tmp 45) 27 rfl rfl rfl aE ?_;clear aE)
     | (at_builtin;refine J4 rfl (.tmp 46) (.tmp 47) 27 rfl rfl rfl bo ?_;clear bo))
    go_roundw
    case rel=>exact⟨k+1,_,by go_num,rfl,by omega,⟨ai,aM⟩⟩
    case measure=>simp[intOf];omega
   ·obtain⟨cR,cS⟩:∃W,W=bb:=⟨_,rfl⟩
    have a8:=J0 bi;have v0:=(a8.cell (p:=⟨gt,_,none⟩) (J2 t0)).trans t0;have v1:=(a8.cell (p:=⟨gt,_,none⟩) (J2 t1)).trans t1;have v2:=(a8.cell (p:=⟨gt,_,none⟩) (J2 t2)).trans t2;have v3:=(a8.cell (p:=⟨gt,_,none⟩) (J2 t3)).trans t3;have v4:=(a8.cell (p:=⟨gt,_,none⟩) (J2 t4)).trans t4;have cg:=J3 (bg _ a8);have ch:=J3 ah;have ci:=J3 af;clear t0 t1 t2 t3 t4 bg a8 aj aI aL aw aq aU aR a7 ah af cS cR;go_wp2_with (at_builtin;refine J4 rfl (.tmp 26) (.tmp 29) 27 rfl rfl rfl ap ?_;clear ap);refine cg.mono ?_;rintro _ dd ⟨⟨de,rfl,bY⟩,bZ⟩;obtain⟨df,dg,rfl⟩:=za6 bY cf;have ah:=J0 ch;have af:=J0 ci;obtain⟨g2,ba,bj,bk,ak,al,am⟩:=(bD.below bZ).app (Qb bY) cf (by first|omega|(simp;omega));obtain⟨g3,bf,bE,bF,aB,aC,aD⟩:=al.one [61] (by first|omega|(simp;omega));obtain⟨g4,cO,cP,cQ,bl,bm,bn⟩:=aC.take ax ay aT (by first|omega|(simp;omega));obtain⟨g5,dh,di,dj,cj,ck,cl⟩:=bm.one [59] (by simp;omega);have an:=J3 ak;have aE:=J3 aB;have bo:=J3 bl;have cm:=J3 cj;have aa:=ck.1;rw[show((((L0++[[108,101,116],S])++LT)++[[61]])++LX)++[[59]]=LL Y (k+1) by rw[J0 ao];simp[stL]]at aa;have ai:=J3 aa;have aM:=J3 ((((Zn bi bZ).trans am).trans aD).trans bn |>.trans cl);clear aa ak aB bl cj al aC bm ck am aD bn cl ah af ax ay ao ch ci bD bi bY bZ cg v0 v1 v2 v3 v4;go_wp2_with (first
     | (at_builtin;refine J4 rfl (.tmp 35) (.tmp 40) 27 rfl rfl rfl an ?_;clear an)
     | (at_builtin;refine J4 rfl (.tmp 42) (.tmp 43) 27 rfl rfl rfl aE ?_;clear aE)
     | (at_builtin;refine J4 rfl (.tmp 44) (.tmp 45) 27 rfl rfl rfl bo ?_;clear bo)
     | (at_builtin;refine J4 rfl (.tmp 46) (.tmp 47) 27 rfl rfl rfl cm ?_;clear cm))
    go_roundw
    case rel=>exact⟨k+1,_,by go_num,rfl,by omega,⟨ai,aM⟩⟩
    case measure=>simp[intOf];omega
  ·have ah:L0.length+(stL 2 S LT LX ae LE e).length<=400000:=J0 aq;have af:(stL 2 S LT LX ae LE e).length=2+LX.length+1:=by simp[stL] <;> omega
   obtain⟨g1,be,bC,bb,az,ar,aA⟩:=aj.two S [61] (by first|omega|(simp;omega));obtain⟨g2,ba,bj,bk,ak,al,am⟩:=ar.take ax ay aT (by first|omega|(simp;omega));obtain⟨g3,bf,bE,bF,aB,aC,aD⟩:=al.one [59] (by first|omega|(simp;omega));have ap:=J3 az;have an:=J3 ak;have aE:=J3 aB;have aa:=aC.1;rw[show(((L0++[S,[61]])++LX)++[[59]])=LL Y (k+1) by rw[J0 ao];simp[stL]]at aa;have ai:=J3 aa;have aM:=J3 ((((aw).trans aA).trans am).trans aD);clear az ar aA ak al am aB aC aD aa ah af aj ax ay aI aL aw ao aq aU aR a7;go_wp2_with (first
    | (at_builtin;refine J4 rfl (.tmp 51) (.tmp 54) 27 rfl rfl rfl ap ?_;clear ap)
    | (at_builtin;refine J4 rfl (.tmp 55) (.tmp 56) 27 rfl rfl rfl an ?_;clear an)
    | (at_builtin;refine J4 rfl (.tmp 57) (.tmp 58) 27 rfl rfl rfl aE ?_;clear aE))
   go_roundw
   case rel=>exact⟨k+1,_,by go_num,rfl,by omega,⟨ai,aM⟩⟩
   case measure=>simp[intOf];omega
  ·have ah:L0.length+(stL 3 S LT LX ae LE e).length<=400000:=J0 aq;have af:(stL 3 S LT LX ae LE e).length=1+LX.length+1:=by simp[stL] <;> omega
   obtain⟨g1,be,bC,bb,az,ar,aA⟩:=aj.one [112,114,105,110,116] (by first|omega|(simp;omega));obtain⟨g2,ba,bj,bk,ak,al,am⟩:=ar.take ax ay aT (by first|omega|(simp;omega));obtain⟨g3,bf,bE,bF,aB,aC,aD⟩:=al.one [59] (by first|omega|(simp;omega));have ap:=J3 az;have an:=J3 ak;have aE:=J3 aB;have aa:=aC.1;rw[show(((L0++[[112,114,105,110,116]])++LX)++[[59]])=LL Y (k+1) by rw[J0 ao];simp[stL]]at aa;have ai:=J3 aa;have aM:=J3 ((((aw).trans aA).trans am).trans aD);clear az ar aA ak al am aB aC aD aa ah af aj ax ay aI aL aw ao aq aU aR a7;go_wp2_with (first
    | (at_builtin;refine J4 rfl (.tmp 62) (.tmp 63) 27 rfl rfl rfl ap ?_;clear ap)
    | (at_builtin;refine J4 rfl (.tmp 64) (.tmp 65) 27 rfl rfl rfl an ?_;clear an)
    | (at_builtin;refine J4 rfl (.tmp 66) (.tmp 67) 27 rfl rfl rfl aE ?_;clear aE))
   go_roundw
   case rel=>exact⟨k+1,_,by go_num,rfl,by omega,⟨ai,aM⟩⟩
   case measure=>simp[intOf];omega
  ·have ah:L0.length+(stL 4 S LT LX ae LE e).length<=400000:=J0 aq;obtain⟨aS,aV⟩:=Ze (Value.slice cc L0.length cd)
   obtain⟨ac,aN⟩:=Ze (zh5 ae)
   have b1:0<ac.length:=by rw[aN];simp[zh5]
   have af:1+LX.length+ac.length+(if 0<e then 1+(zh5 LE).length else 0)=(stL 4 S LT LX ae LE e).length:=by rw[aN];simp[stL];split <;> simp[zh5] <;> omega
   rw[<-aV]at aj;rw[<-aV];clear aV;obtain⟨B,co⟩:=Ze (fun W=>ZB w W:Zw->Prop)
   have aF:∀W,B W->ZB w W:=fun W h=>by rw[co]at h;exact h
   have aW:∀W,ZB w W->B W:=fun W h=>by rw[co];exact h
   have sB:∀W W',B W->ZB W W'->B W':=fun W W' h Z=>aW _ (bon (aF _ h) Z)
   have aJ:∀W W',B W->Below w.heap.size W W'->B W':=fun W W' h Z=>aW _ ((aF _ h).trans Z)
   have aK:∀W,B W->w.heap.size<=W.heap.size:=fun W h=>(aF W h).size
   have bp:∀W,(B W/\Kept w1 b0 W)->W.cell? ⟨wr.heap.size,5,none⟩=some (.slice pb b cb):=fun W h=>(aL W h.2).2.1
   have bq:∀W,(B W/\Kept w1 b0 W)->Leaves 45 #[.slice pb b cb] W ac:=fun W h=>by rw[aN];exact aR (by omega) W (aF W h.1)
   have br:=J3 aN;clear aU aR aN aq;go_wp2_with fail;refine JL (n:=119) Zk Zk Zk rfl B (VP (vS24 wr.heap.size (.slice pb b cb))) (XCo w1 b0 w.heap.size 0 9 (some aS) L0 [(2,1,[[105,102]]),(4,3,LX),(8,7,ac)])
    (aW _ (Jb aw)) (XCo.run (aj.below (Jb Zr))) ?each ?fin
   case each=>
    refine⟨?_,?_,?_,?_,?_,?_,?_,?_,?_,?_,trivial⟩
    ·refine Qm rfl (by decide) (by simp) rfl rfl rfl (fun f down G=>?_) (fun J f L aG bt=>?_)
     ·have I:=J6 down (i:=2) (j:=0) Zk G;have U:=J6 down (i:=4) (j:=2) Zk I;have ad:=J6 down (i:=8) (j:=4) Zk U;have au:=J6 down (i:=9) (j:=8) Zk ad;exact⟨au,by simp[I,U,ad]⟩
     ·exact aG 3 9 Zk bt
    ·exact Ql (M:=[[105,102]]) sB (by decide) (by decide) (by simp) rfl (fun J W hz L V dep=>⟨J1 rfl,zb7 (s:=⟨#[105,102]⟩) rfl rfl ⟨_,rfl,al1 _ _,src1 W [105,102]⟩⟩)
    ·refine Qn (q:=0) (s:=1) (Lq:=L0) (M:=[[105,102]]) aJ aK (by decide) rfl rfl rfl rfl (by simp) (by simp) (by simp;omega) (by simp) Zk Zk Zk Zk (fun f v down G r=>?_);have U:=J6 down (i:=4) (j:=2) Zk G;have ad:=J6 down (i:=8) (j:=4) Zk U;have au:=J6 down (i:=9) (j:=8) Zk ad;exact⟨au,by simp[Js,Jw,r,G],by simp[Jk,G],fun x=>⟨by simp[Js,Jw,JT,r,U],by simp[Jk,JT,U]⟩⟩
    ·exact OGoal.old (LX:=LX) (by decide) (by decide) (by simp) rfl rfl rfl ax ay (fun J L=>L 6 Zk)
    ·refine Qn (q:=2) (s:=3) (Lq:=(L0++[[105,102]])) (M:=LX) aJ aK (by decide) rfl rfl rfl rfl (by simp) aT (by simp;omega) (by simp) Zk Zk Zk Zk (fun f v down G r=>?_);obtain⟨v0,ab⟩:=Y4.1 (down 2 0 Zk (by rw[r];simp));have ad:=J6 down (i:=8) (j:=4) Zk G;have au:=J6 down (i:=9) (j:=8) Zk ad;exact⟨au,by simp[Js,Jw,ab,r,G],by simp[Jk,r,G],fun x=>⟨by simp[Js,Jw,JT,ab,r,ad],by simp[Jk,JT,r,ad]⟩⟩
    ·exact Qk sB (by decide) (by decide) (by simp) (fun J W f hz L aG V G down dep=>⟨J1 rfl,zku (by decide) rfl (show J.eval (.tmp 5)=Value.pointer (Zs wr.heap.size 0)from L 5 Zk) ⟨_,rfl,Zr,rfl⟩⟩)
    ·exact Qk sB (by decide) (by decide) (by simp) (fun J W f hz L aG V G down dep=>⟨J1 rfl,ze3 rfl (dep 5 103 _ Zk Zk rfl) (bp W V) ⟨_,rfl,Zr,rfl⟩⟩)
    ·exact Ql (M:=ac) sB (by decide) (by decide) (by simp) rfl (fun J W hz L V dep=>⟨J1 rfl,zai rfl (dep 6 104 _ Zk Zk rfl) zfc ((bq W V).mono fun e w' ⟨⟨u,he,aH⟩,Z⟩=>⟨u,he,u,rfl,Z,Qb aH,fun g aZ=>aH.lt g aZ⟩)⟩)
    ·refine Qn (q:=4) (s:=7) (Lq:=(L0++[[105,102]]++LX)) (M:=ac) aJ aK (by decide) rfl rfl rfl rfl (by simp) b1 (by simp;omega) (by simp) Zk Zk Zk Zk (fun f v down G r=>?_);obtain⟨v2,I⟩:=Y4.1 (down 4 2 Zk (by rw[r];simp));obtain⟨v0,ab⟩:=Y4.1 (down 2 0 Zk (by rw[I];simp));have au:=J6 down (i:=9) (j:=8) Zk G;exact⟨au,by simp[Js,Jw,ab,I,r,G],by simp[Jk,I,r,G],fun x=>⟨by simp[Js,Jw,JT,ab,I,r],by simp[Jk,JT,I,r]⟩⟩
    ·refine Qo (q:=8) (by decide) (by simp) rfl rfl rfl Zk Zk (fun f v down r=>?_);obtain⟨v4,U⟩:=Y4.1 (down 8 4 Zk (by rw[r];simp));obtain⟨v2,I⟩:=Y4.1 (down 4 2 Zk (by rw[U];simp));obtain⟨v0,ab⟩:=Y4.1 (down 2 0 Zk (by rw[I];simp));simp[Js,Jw,r,ab,I,U]
   case fin=>
    intro J W f hz bc L V ag bu av;have a1:(∃v,f 0=some v)/\(∃v,f 2=some v)/\(∃v,f 4=some v)/\(∃v,f 8=some v):=⟨⟨_,ag 0 98 Zk⟩,⟨_,ag 2 100 Zk⟩,⟨_,ag 4 102 Zk⟩,⟨_,ag 8 106 Zk⟩⟩
    have a6:Jk f L0 [(2,1,[[105,102]]),(4,3,LX),(8,7,ac)]=(L0++[[105,102]]++LX++ac):=by
     obtain⟨⟨_,_⟩,⟨_,I⟩,⟨_,U⟩,⟨_,ad⟩⟩:=a1;simp[Jk,I,U,ad]
    obtain⟨aO,_⟩:=av.1.2.2 _ (av.1.1 _ (ag 9 3 Zk));rw[a6]at aO;have a':=J3 (aF W V);have bG:ZH (Run w1 b0 w.heap.size W (J.tmps.getD 3 undef) (L0++[[105,102]]++LX++ac)):=⟨by simpa using aO,(aF W V).size,av.2.1,av.2.2 _ (av.1.1 _ (ag 9 3 Zk))⟩
    obtain⟨_,f5,f6⟩:=aL W av.2.1;rw[JZ hz rfl bc L];clear ag bu av L a1 a6 bp bq aO hz bc V;generalize bH:J.tmps.getD 3 undef=v3 at bG;simp only[List.foldl,Option.getD];rw[bH];clear bH;generalize J.tmps.getD 98 undef=z98;generalize J.tmps.getD 99 undef=z99;generalize J.tmps.getD 100 undef=z100;generalize J.tmps.getD 101 undef=z101;generalize J.tmps.getD 102 undef=z102;generalize J.tmps.getD 103 undef=z103;generalize J.tmps.getD 104 undef=z104;generalize J.tmps.getD 105 undef=z105;generalize J.tmps.getD 106 undef=z106;by_cases he:0<e
    rotate_left
    ·obtain rfl:e=0:=by omega
     have ai:ZH (W.ownsRow w.heap.size 9 1 v3 (LL Y (k+1)).length (za8 (LL Y (k+1)))):=by rw[J0 ao,show stL 4 S LT LX ae LE 0=[[105,102]]++LX++ac by rw[J0 br];simp[stL]];exact J3 (by simpa using(J0 bG).1)
     clear sB aJ aK aF aW;go_wp2;go_roundw
     case rel=>exact⟨k+1,_,by go_num,rfl,by omega,⟨ai,a'⟩⟩
     case measure=>simp[intOf];omega
    have dk:0<(e:Int):=by omega
    obtain⟨a9,bI⟩:=Ze (L0++[[105,102]]++LX++ac)
    rw[<-bI]at bG;obtain⟨aX,bv⟩:=Ze (zh5 LE)
    have cT:0<aX.length:=by rw[bv];simp[zh5]
    have dl:a9.length+1+aX.length<=400001:=by
     rw[bI];rw[Ye he]at af;simp[zh5]at af;rw[bv];simp[zh5];omega
    have cr:∀W,(B W/\Kept w1 b0 W)->W.cell? ⟨wr.heap.size,6,none⟩=some (.slice pe e ce):=fun W h=>(aL W h.2).2.2
    have cs:∀W,(B W/\Kept w1 b0 W)->Leaves 45 #[.slice pe e ce] W aX:=fun W h=>by rw[bv];exact a7 (by first|rfl|trivial) he W (aF W h.1)
    have cU:ZH (LL Y (k+1)=a9++[[101,108,115,101]]++aX):=by
     show _=_;rw[J0 ao,bI,bv,J0 br];simp[stL,he]
    clear bI bv af ah ao br;go_wp2_with fail;refine JL (n:=119) Zk Zk Zk rfl B (VP (vS26 wr.heap.size (.slice pe e ce))) (XCo w1 b0 w.heap.size 0 7 (some v3) a9 [(2,1,[[101,108,115,101]]),(6,5,aX)])
     (aW _ (Jb a')) (XCo.run (bG.below (Jb Zr))) ?each ?fin
    case each=>
     refine⟨?_,?_,?_,?_,?_,?_,?_,?_,trivial⟩
     ·refine Qm rfl (by decide) (by simp) rfl rfl rfl (fun f down G=>?_) (fun J f L aG bt=>?_)
      ·have I:=J6 down (i:=2) (j:=0) Zk G;have aP:=J6 down (i:=6) (j:=2) Zk I;have bw:=J6 down (i:=7) (j:=6) Zk aP;exact⟨bw,by simp[I,aP]⟩
      ·exact aG 3 7 Zk bt
     ·exact Ql (M:=[[101,108,115,101]]) sB (by decide) (by decide) (by simp) rfl (fun J W hz L V dep=>⟨J1 rfl,zb7 (s:=⟨#[101,108,115,101]⟩) rfl rfl ⟨_,rfl,al1 _ _,src1 W [101,108,115,101]⟩⟩)
     ·refine Qn (q:=0) (s:=1) (Lq:=a9) (M:=[[101,108,115,101]]) aJ aK (by decide) rfl rfl rfl rfl (by simp) (by simp) (by simp;omega) (by simp) Zk Zk Zk Zk (fun f v down G r=>?_);have aP:=J6 down (i:=6) (j:=2) Zk G;have bw:=J6 down (i:=7) (j:=6) Zk aP;exact⟨bw,by simp[Js,Jw,r,G],by simp[Jk,G],fun x=>⟨by simp[Js,Jw,JT,r,aP],by simp[Jk,JT,aP]⟩⟩
     ·exact Qk sB (by decide) (by decide) (by simp) (fun J W f hz L aG V G down dep=>⟨J1 rfl,zku (by decide) rfl (show J.eval (.tmp 5)=Value.pointer (Zs wr.heap.size 0)from L 5 Zk) ⟨_,rfl,Zr,rfl⟩⟩)
     ·exact Qk sB (by decide) (by decide) (by simp) (fun J W f hz L aG V G down dep=>⟨J1 rfl,ze3 rfl (dep 3 114 _ Zk Zk rfl) (cr W V) ⟨_,rfl,Zr,rfl⟩⟩)
     ·exact Ql (M:=aX) sB (by decide) (by decide) (by simp) rfl (fun J W hz L V dep=>⟨J1 rfl,zai rfl (dep 4 115 _ Zk Zk rfl) zfc ((cs W V).mono fun e w' ⟨⟨u,he,aH⟩,Z⟩=>⟨u,he,u,rfl,Z,Qb aH,fun g aZ=>aH.lt g aZ⟩)⟩)
     ·refine Qn (q:=2) (s:=5) (Lq:=(a9++[[101,108,115,101]])) (M:=aX) aJ aK (by decide) rfl rfl rfl rfl (by simp) cT (by simp;omega) (by simp) Zk Zk Zk Zk (fun f v down G r=>?_);obtain⟨v0,ab⟩:=Y4.1 (down 2 0 Zk (by rw[r];simp));have bw:=J6 down (i:=7) (j:=6) Zk G;exact⟨bw,by simp[Js,Jw,ab,r,G],by simp[Jk,r,G],fun x=>⟨by simp[Js,Jw,JT,ab,r],by simp[Jk,JT,r]⟩⟩
     ·refine Qo (q:=6) (by decide) (by simp) rfl rfl rfl Zk Zk (fun f v down r=>?_);obtain⟨v2,I⟩:=Y4.1 (down 6 2 Zk (by rw[r];simp));obtain⟨v0,ab⟩:=Y4.1 (down 2 0 Zk (by rw[I];simp));simp[Js,Jw,r,ab,I]
    case fin=>
     intro J W f hz bc L V ag bu av;have a1:(∃v,f 0=some v)/\(∃v,f 2=some v)/\(∃v,f 6=some v):=⟨⟨_,ag 0 111 Zk⟩,⟨_,ag 2 113 Zk⟩,⟨_,ag 6 117 Zk⟩⟩
     have a6:Jk f a9 [(2,1,[[101,108,115,101]]),(6,5,aX)]=(a9++[[101,108,115,101]]++aX):=by
      obtain⟨⟨_,_⟩,⟨_,I⟩,⟨_,aP⟩⟩:=a1;simp[Jk,I,aP]
     obtain⟨aO,_⟩:=av.1.2.2 _ (av.1.1 _ (ag 7 3 Zk));rw[a6]at aO;have cV:=J3 (aF W V);rw[JZ hz rfl bc L];have ai:ZH (W.ownsRow w.heap.size 9 1 (J.tmps.getD 3 undef) (LL Y (k+1)).length (za8 (LL Y (k+1)))):=by rw[J0 cU];exact J3 (by simpa using aO)
     clear ag bu av L a1 a6 cr cs sB aJ aK aF aW aO;generalize cW:J.tmps.getD 3 undef=v4 at ai;simp only[List.foldl,Option.getD];rw[cW];go_wp2;go_roundw
     case rel=>exact⟨k+1,_,by go_num,rfl,by omega,⟨ai,cV⟩⟩
     case measure=>simp[intOf];omega
  ·have ah:L0.length+(stL 5 S LT LX ae LE e).length<=400000:=J0 aq;obtain⟨aS,aV⟩:=Ze (Value.slice cc L0.length cd)
   obtain⟨ac,aN⟩:=Ze (zh5 ae)
   have b1:0<ac.length:=by rw[aN];simp[zh5]
   have af:1+LX.length+ac.length+0=(stL 5 S LT LX ae LE e).length:=by rw[aN];simp[stL];omega
   rw[<-aV]at aj;rw[<-aV];clear aV;obtain⟨B,aF,aW,sB,aJ,aK⟩:=Zx w
   have bp:∀W,(B W/\Kept w1 b0 W)->W.cell? ⟨wr.heap.size,5,none⟩=some (.slice pb b cb):=fun W h=>(aL W h.2).2.1
   have bq:∀W,(B W/\Kept w1 b0 W)->Leaves 45 #[.slice pb b cb] W ac:=fun W h=>by rw[aN];exact aR (by omega) W (aF W h.1)
   have br:=J3 aN;clear aU aR aN aq;go_wp2_with fail;refine JL (n:=119) Zk Zk Zk rfl B (VP (vS22 wr.heap.size (.slice pb b cb))) (XCo w1 b0 w.heap.size 0 9 (some aS) L0 [(2,1,[[119,104,105,108,101]]),(4,3,LX),(8,7,ac)])
    (aW _ (Jb aw)) (XCo.run (aj.below (Jb Zr))) ?each ?fin
   case each=>
    refine⟨?_,?_,?_,?_,?_,?_,?_,?_,?_,?_,trivial⟩
    ·refine Qm rfl (by decide) (by simp) rfl rfl rfl (fun f down G=>?_) (fun J f L aG bt=>?_)
     ·have I:=J6 down (i:=2) (j:=0) Zk G;have U:=J6 down (i:=4) (j:=2) Zk I;have ad:=J6 down (i:=8) (j:=4) Zk U;have au:=J6 down (i:=9) (j:=8) Zk ad;exact⟨au,by simp[I,U,ad]⟩
     ·exact aG 3 9 Zk bt
    ·exact Ql (M:=[[119,104,105,108,101]]) sB (by decide) (by decide) (by simp) rfl (fun J W hz L V dep=>⟨J1 rfl,zb7 (s:=⟨#[119,104,105,108,101]⟩) rfl rfl ⟨_,rfl,al1 _ _,src1 W [119,104,105,108,101]⟩⟩)
    ·refine Qn (q:=0) (s:=1) (Lq:=L0) (M:=[[119,104,105,108,101]]) aJ aK (by decide) rfl rfl rfl rfl (by simp) (by simp) (by simp;omega) (by simp) Zk Zk Zk Zk (fun f v down G r=>?_);have U:=J6 down (i:=4) (j:=2) Zk G;have ad:=J6 down (i:=8) (j:=4) Zk U;have au:=J6 down (i:=9) (j:=8) Zk ad;exact⟨au,by simp[Js,Jw,r,G],by simp[Jk,G],fun x=>⟨by simp[Js,Jw,JT,r,U],by simp[Jk,JT,U]⟩⟩
    ·exact OGoal.old (LX:=LX) (by decide) (by decide) (by simp) rfl rfl rfl ax ay (fun J L=>L 6 Zk)
    ·refine Qn (q:=2) (s:=3) (Lq:=(L0++[[119,104,105,108,101]])) (M:=LX) aJ aK (by decide) rfl rfl rfl rfl (by simp) aT (by simp;omega) (by simp) Zk Zk Zk Zk (fun f v down G r=>?_);obtain⟨v0,ab⟩:=Y4.1 (down 2 0 Zk (by rw[r];simp));have ad:=J6 down (i:=8) (j:=4) Zk G;have au:=J6 down (i:=9) (j:=8) Zk ad;exact⟨au,by simp[Js,Jw,ab,r,G],by simp[Jk,r,G],fun x=>⟨by simp[Js,Jw,JT,ab,r,ad],by simp[Jk,JT,r,ad]⟩⟩
    ·exact Qk sB (by decide) (by decide) (by simp) (fun J W f hz L aG V G down dep=>⟨J1 rfl,zku (by decide) rfl (show J.eval (.tmp 5)=Value.pointer (Zs wr.heap.size 0)from L 5 Zk) ⟨_,rfl,Zr,rfl⟩⟩)
    ·exact Qk sB (by decide) (by decide) (by simp) (fun J W f hz L aG V G down dep=>⟨J1 rfl,ze3 rfl (dep 5 92 _ Zk Zk rfl) (bp W V) ⟨_,rfl,Zr,rfl⟩⟩)
    ·exact Ql (M:=ac) sB (by decide) (by decide) (by simp) rfl (fun J W hz L V dep=>⟨J1 rfl,zai rfl (dep 6 93 _ Zk Zk rfl) zfc ((bq W V).mono fun e w' ⟨⟨u,he,aH⟩,Z⟩=>⟨u,he,u,rfl,Z,Qb aH,fun g aZ=>aH.lt g aZ⟩)⟩)
    ·refine Qn (q:=4) (s:=7) (Lq:=(L0++[[119,104,105,108,101]]++LX)) (M:=ac) aJ aK (by decide) rfl rfl rfl rfl (by simp) b1 (by simp;omega) (by simp) Zk Zk Zk Zk (fun f v down G r=>?_);obtain⟨v2,I⟩:=Y4.1 (down 4 2 Zk (by rw[r];simp));obtain⟨v0,ab⟩:=Y4.1 (down 2 0 Zk (by rw[I];simp));have au:=J6 down (i:=9) (j:=8) Zk G;exact⟨au,by simp[Js,Jw,ab,I,r,G],by simp[Jk,I,r,G],fun x=>⟨by simp[Js,Jw,JT,ab,I,r],by simp[Jk,JT,I,r]⟩⟩
    ·refine Qo (q:=8) (by decide) (by simp) rfl rfl rfl Zk Zk (fun f v down r=>?_);obtain⟨v4,U⟩:=Y4.1 (down 8 4 Zk (by rw[r];simp));obtain⟨v2,I⟩:=Y4.1 (down 4 2 Zk (by rw[U];simp));obtain⟨v0,ab⟩:=Y4.1 (down 2 0 Zk (by rw[I];simp));simp[Js,Jw,r,ab,I,U]
   case fin=>
    intro J W f hz bc L V ag bu av;have a1:(∃v,f 0=some v)/\(∃v,f 2=some v)/\(∃v,f 4=some v)/\(∃v,f 8=some v):=⟨⟨_,ag 0 87 Zk⟩,⟨_,ag 2 89 Zk⟩,⟨_,ag 4 91 Zk⟩,⟨_,ag 8 95 Zk⟩⟩
    have a6:Jk f L0 [(2,1,[[119,104,105,108,101]]),(4,3,LX),(8,7,ac)]=(L0++[[119,104,105,108,101]]++LX++ac):=by
     obtain⟨⟨_,_⟩,⟨_,I⟩,⟨_,U⟩,⟨_,ad⟩⟩:=a1;simp[Jk,I,U,ad]
    obtain⟨aO,_⟩:=av.1.2.2 _ (av.1.1 _ (ag 9 3 Zk));rw[a6]at aO;have a':=J3 (aF W V);rw[JZ hz rfl bc L];have ai:ZH (W.ownsRow w.heap.size 9 1 (J.tmps.getD 3 undef) (LL Y (k+1)).length (za8 (LL Y (k+1)))):=by rw[J0 ao,show stL 5 S LT LX ae LE e=[[119,104,105,108,101]]++LX++ac by rw[J0 br];rfl];exact J3 (by simpa using aO)
    clear ag bu av L a1 a6 bp bq sB aJ aK aF aW aO;generalize bH:J.tmps.getD 3 undef=v3 at ai;simp only[List.foldl,Option.getD];rw[bH];go_wp2;go_roundw
    case rel=>exact⟨k+1,_,by go_num,rfl,by omega,⟨ai,a'⟩⟩
    case measure=>simp[intOf];omega
  ·have ah:L0.length+(stL 6 S LT LX ae LE e).length<=400000:=J0 aq;have af:(stL 6 S LT LX ae LE e).length=1+LX.length+1:=by simp[stL] <;> omega
   obtain⟨g1,be,bC,bb,az,ar,aA⟩:=aj.one [114,101,116,117,114,110] (by first|omega|(simp;omega));obtain⟨g2,ba,bj,bk,ak,al,am⟩:=ar.take ax ay aT (by first|omega|(simp;omega));obtain⟨g3,bf,bE,bF,aB,aC,aD⟩:=al.one [59] (by first|omega|(simp;omega));have ap:=J3 az;have an:=J3 ak;have aE:=J3 aB;have aa:=aC.1;rw[show(((L0++[[114,101,116,117,114,110]])++LX)++[[59]])=LL Y (k+1) by rw[J0 ao];simp[stL]]at aa;have ai:=J3 aa;have aM:=J3 ((((aw).trans aA).trans am).trans aD);clear az ar aA ak al am aB aC aD aa ah af aj ax ay aI aL aw ao aq aU aR a7;go_wp2_with (first
    | (at_builtin;refine J4 rfl (.tmp 71) (.tmp 72) 27 rfl rfl rfl ap ?_;clear ap)
    | (at_builtin;refine J4 rfl (.tmp 73) (.tmp 74) 27 rfl rfl rfl an ?_;clear an)
    | (at_builtin;refine J4 rfl (.tmp 75) (.tmp 76) 27 rfl rfl rfl aE ?_;clear aE))
   go_roundw
   case rel=>exact⟨k+1,_,by go_num,rfl,by omega,⟨ai,aM⟩⟩
   case measure=>simp[intOf];omega
  ·have ah:L0.length+(stL 7 S LT LX ae LE e).length<=400000:=J0 aq;have af:(stL 7 S LT LX ae LE e).length=LX.length+1:=by simp[stL] <;> omega
   obtain⟨g1,be,bC,bb,az,ar,aA⟩:=aj.take ax ay aT (by first|omega|(simp;omega));obtain⟨g2,ba,bj,bk,ak,al,am⟩:=ar.one [59] (by first|omega|(simp;omega));have ap:=J3 az;have an:=J3 ak;have aa:=al.1;rw[show((L0++LX)++[[59]])=LL Y (k+1) by rw[J0 ao];simp[stL]]at aa;have ai:=J3 aa;have aM:=J3 (((aw).trans aA).trans am);clear az ar aA ak al am aa ah af aj ax ay aI aL aw ao aq aU aR a7;go_wp2_with (first
    | (at_builtin;refine J4 rfl (.tmp 80) (.tmp 81) 27 rfl rfl rfl ap ?_;clear ap)
    | (at_builtin;refine J4 rfl (.tmp 82) (.tmp 83) 27 rfl rfl rfl an ?_;clear an))
   go_roundw
   case rel=>exact⟨k+1,_,by go_num,rfl,by omega,⟨ai,aM⟩⟩
   case measure=>simp[intOf];omega
def ListedAt (D d m:Nat):Prop:=∀(g:List (St D d m)) (p:Zo) (c:Nat) (w:Zw),StRow w D d m (.slice p g.length c) g->(∃room,za2 D d m room g=true)->zeh D d m g<=30000->Leaves 72 #[.slice p g.length c] w (stS D d m g)
theorem LL_stS (D d m:Nat) (c:List (St D d (m+1))):LL (fun i=>(c[i]?.map fun s=>(stTk D d m s).map J5).getD []) c.length=stS D d (m+1) c:=by
 unfold LL stS;rw[zgy,zes,Xv]
 rfl
theorem listed_any (D d:Nat):∀m,ListedAt D d m
 | 0=>fun h p c w _ _ _=>by
  match h with
  | []=>exact lst_run p 0 c w (fun _=>[]) (by omega) (by simp[LL]) fun k hk=>absurd hk (by omega)
  | s::_=>exact nomatch s
 | m+1=>fun h p c w hv I hz=>by
  have IH:=listed_any D d m;obtain⟨room,I⟩:=I;have hle:=stS_le D d (m+1) h;have hlen:h.length<=zeh D d (m+1) h:=by
   clear hz hv I hle;rw[zeh]
   induction h with
   | nil=>simp
   | cons x r ih=>
    simp only[Yf,YM,Yk];omega
  rw[<-LL_stS];rw[<-LL_stS]at hle;refine lst_run p h.length c w _ (by omega) (by omega) fun k hk=>?_
  obtain⟨p1,c1,e,hp⟩:=hv;injection e with J _ _
  subst J;have aa:h[k]?=some h[k]:=by simp
  obtain⟨g,o,vt,vx,vb,ve,rfl,a0,a1,a2,a3,a4,a5,a6,L,⟨M,rc⟩,U,V⟩:=hp k h[k] aa;obtain⟨h1,h2,h3,h4,h5⟩:=zfy I h[k] (by simp);obtain⟨f1,⟨f2,ab⟩,f3,_,f5⟩:=zg3 h1;have af:1+(zb4 h[k]).length+szL D (sT h[k])+zdp D d (sX h[k])+zeh D d m (sB h[k])+zeh D d m (sE h[k])<=30000:=by
   refine Yh ?_ hz;rw[zeh];exact zbu (YF.2 ⟨h[k],by simp,rfl⟩)
  rw[aa];show LSt w _ k ((stTk D d m h[k]).map J5);generalize h[k]=s at a0 a1 a2 a3 a4 a5 a6 L M rc U V h1 h2 h3 h4 h5 f1 f2 ab f3 f5 af ⊢;obtain⟨A,K,S,Y,xs,bs,es⟩:=s;dsimp only[sAt,zii,zb4,sT,sX,sB,sE]at *;obtain⟨j,rfl⟩:=Xq.1 f1;obtain⟨pt,ct,rfl⟩:=L.slice;obtain⟨px,cx,rfl⟩:=M.slice;obtain⟨pb,cb,rfl⟩:=U.slice;obtain⟨pe,ce,rfl⟩:=V.slice;have ac:∃room,za9 D d room j=true:=⟨_,h3 j (by simp) rfl⟩
  have ag:szX D d j<=30000:=by
   have:zdp D d [j]=szX D d j:=by simp[zdp]
   omega
  obtain⟨u,⟨gx,ox,A',K',N',S',q1,q2,q3,n1,d1,n2,d2,n3,d3,rfl,rfl,ad,x1,x2,x3,x4,x5,x6⟩,hu⟩:=EV.at M rc 0 (by simp);simp only[Xt,Xs]at ad x1 x2 x3 x4 x5 x6;have ai:=stS_le D d m bs;have aj:=stS_le D d m es;refine⟨g,o,A,K,S,pt,_,pb,pe,Y.length,bs.length,es.length,ct,cx,cb,ce,(Y.flatMap (Jf D false)).map J5,exS D d j,stS D d m bs,stS D d m es,rfl,f2,ab,⟨a0,a1,a2,a3,a4,a5,a6⟩,⟨gx,ox,A',K',N',S',q1,q2,q3,n1,n2,n3,d1,d2,d3,rfl,⟨ad,x1,x2,x3,x4,x5,x6⟩,zdr ac,fun W G=>told_any D d j _ W (hu.below G) ac ag⟩,fun ah=>?_,fun _ W G=>zjj pb _ cb _ W (by omega) fun W' Z=>IH bs pb cb W' (StRow.below (bon G Z) m U) ⟨_,h4⟩ (by omega),fun _ _ W G=>zjj pe _ ce _ W (by omega) fun W' Z=>IH es pe ce W' (StRow.below (bon G Z) m V) ⟨_,h5⟩ (by omega),?_⟩
  ·have ht:=(f3 ah).1
   match Y,ht with
   | [],_=>exact .inl ⟨rfl,rfl⟩
   | [t],_=>
    obtain⟨u,⟨gt,ot,K2,S2,t1,t2,t3,m1,J,m2,e2,m3,e3,rfl,rfl,y0,y1,y2,y3,y4⟩,hx⟩:=TyRow.at L 0 (by simp);simp only[Xt,Xs]at y0 y1 y2 y3 y4;have ae:∃room,JP D room t=true:=⟨_,zeu h2 t (by simp)⟩
    have ak:szL D [t]=szD D t:=by simp[szL]
    have eT:(([t]:List (Ty D)).flatMap (Jf D false)).map J5=tyS D t:=by simp[tyS]
    rw[eT];exact .inr ⟨rfl,gt,ot,K2,S2,t1,t2,t3,m1,m2,m3,J,e2,e3,rfl,⟨y0,y1,y2,y3,y4⟩,zfp ae,fun W G=>(zmb D t _ W (TyValD.below G hx) ae (by omega)).mono fun e w' ⟨⟨u,he,ho,_⟩,hb⟩=>⟨⟨u,he,ho⟩,hb⟩⟩
  ·exact stT_map K S _ _ _ _ _
end Go.Proofs.YtdcbglnhhbmpgaaGreatDoor
