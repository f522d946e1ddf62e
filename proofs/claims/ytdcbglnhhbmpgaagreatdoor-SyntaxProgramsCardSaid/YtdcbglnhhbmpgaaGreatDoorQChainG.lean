import Derived.Test.YtdcbglnhhbmpgaaGreatDoorQRegG
import Derived.Test.YtdcbglnhhbmpgaaGreatDoorQOwnG

namespace Go.Proofs.YtdcbglnhhbmpgaaGreatDoor
open Go Go.RowKit
structure YInv (ops:Array Oper) (a0:Act) (B:Zw->Prop) (V:Nat->Value->Zw->Prop) (X:(Nat->Option Value)->Zw->Prop) (listed:Array Bool) (a:Act) (w:Zw) (f:Nat->Option Value):Prop where
 size:listed.size=ops.size
 slots:a.tmps.size=a0.tmps.size
 defers:a.defers=a0.defers
 kept:∀t,noB ops t=true->a.tmps.getD t undef=a0.tmps.getD t undef
 late:∀t j,(ops[j]?).bind (·.dst)=some t->f j=none->a.tmps.getD t undef=a0.tmps.getD t undef
 base:B w
 yes:∀i d,(ops[i]?).bind (·.dst)=some d->listed.getD i false=true->f i=some (a.tmps.getD d undef)
 no:∀i,listed.getD i false=false->f i=none
 done:∀i v,f i=some v->V i v w
 down:∀i j,Region.waitsFor .any ops i j=true->f i≠none->f j≠none
 more:X f w
def YGoal (P:Program) (ops:Array Oper) (Q:Exit->Act->Zw->Prop) (a0:Act) (n:Nat) (B:Zw->Prop) (V:Nat->Value->Zw->Prop) (X:(Nat->Option Value)->Zw->Prop) (i:Nat) (o:Oper):Prop:=
 ∀(a:Act) (w:Zw) (f:Nat->Option Value),a.tmps.size=n->a.defers=a0.defers->(∀t,noB ops t=true->a.tmps.getD t undef=a0.tmps.getD t undef)->(∀t j,(ops[j]?).bind (·.dst)=some t->f j=none->a.tmps.getD t undef=a0.tmps.getD t undef)->B w->(∀j v,f j=some v->V j v w)->X f w->f i=none->(∀i j,Region.waitsFor .any ops i j=true->f i≠none->f j≠none)->(∀j d,(ops[j]?).bind (·.dst)=some d->Region.waitsFor .any ops i j=true->f j=some (a.tmps.getD d undef)) ->
  Region.wanted o (yielded ops a.tmps)=true/\o.wp P a w (fun c w'=>∃v,c=a.put o.dst v/\B w'/\V i v w'/\(∀j u,f j=some u->V j u w')/\X (JT f i v) w') Q
theorem JL {P:Program} {id n:Nat} {ops:Array Oper} {Q:Exit->Act->Zw->Prop} {a0:Act} {w:Zw} (hm:P.follows .mixedOrders=true) (hd:destB ops n=true) (hk:backB ops=true) (r:a0.tmps.size=n) (B:Zw->Prop) (V:Nat->Value->Zw->Prop) (X:(Nat->Option Value)->Zw->Prop) (hB:B w.drew) (hX:X (fun _=>none) w.drew)
  (each:EachOp (YGoal P ops Q a0 n B V X) ops.toList 0)
  (fin:∀(a:Act) (w:Zw) (f:Nat->Option Value),a.tmps.size=n->a.defers=a0.defers->(∀t,noB ops t=true->a.tmps.getD t undef=a0.tmps.getD t undef)->B w->(∀j d,(ops[j]?).bind (·.dst)=some d->f j=some (a.tmps.getD d undef))->(∀j v,f j=some v->V j v w)->X f w->Q .normal a w) :
  (Code.region id ops true).wp P Q a0 w:=by
 refine wp_region_any hm (zga (fun listed a w=>∃f,YInv ops a0 B V X listed a w f) (fun _ _ _ ⟨_,h⟩=>h.size) ?_ ?_ ops.size (Array.replicate ops.size false) a0 _ ⟨fun _=>none,by simp,rfl,rfl,fun _ _=>rfl,fun _ _ _ _=>rfl,hB,?_,fun _ _=>rfl,(fun _ _ h=>nomatch h),(fun _ _ _ h=>absurd rfl h),hX⟩ ?_)
 ·rintro listed a u i ⟨f,h⟩ hi;have ab:=List.mem_filter.1 hi;have J:i<ops.size:=Yy.1 ab.1;have x:ops[i]?=some ops[i]:=by simp[J]
  obtain⟨d,Y,e2,e3⟩:=zl4 hd x;have hp:=ab.2;rw[x]at hp;simp only[Yc,X5,YY]at hp;have ac:i<listed.size:=by rw[h.size];exact J
  have af:listed.getD i false=false:=by
   have:=hp.1;simp only[Bool.not_eq_true']at this;simp only[Array.getD,ac,dite_true]at this ⊢;exact this
  have hw:∀j s,(ops[j]?).bind (·.dst)=some s->Region.waitsFor .any ops i j=true->f j=some (a.tmps.getD s undef):=fun j s c ag=>by
   obtain⟨oi,L,e,he,Z,rfl⟩:=Region.waitsFor_spec ag;rw[x]at L;obtain rfl:=Y1 L;have:=Xh.1 hp.2 e he;rw[Z]at this;exact h.yes _ s c (by simpa using this)
  have hg:=zly _ _ each i ops[i] (by simp[J]);rw[X3]at hg;obtain⟨h1,h2⟩:=hg a u f (h.slots.trans r) h.defers h.kept h.late h.base h.done h.more (h.no i af) h.down hw;rw[wpOp,x];simp only;rw[Ye h1];refine .inl (Xo ?_ h2);rintro a' w' ⟨v,rfl,ah,hv,ai,aj⟩;rw[Y];refine⟨JT f i v,by simp[h.size],by simp[Act.put,h.slots],by simp[Act.put,h.defers],fun t ht=>?_,fun t j c r=>?_,ah,fun j s c G=>?_,fun j G=>?_,fun j u c=>?_,fun j m aa c=>?_,aj⟩
  ·rw[zbx (fun e=>no_of ht i _ x (by rw[Y,e])),h.kept t ht]
  ·have g:j≠i:=fun e=>by rw[e,Jn]at r;cases r
   rw[J7 _ _ g]at r;obtain⟨M,I,U⟩:=X0.1 c;have ak:t≠d:=fun e=>g (e3 j M I (e ▸ U))
   rw[zbx ak,h.late t j c r]
  ·by_cases g:j=i
   ·subst g;rw[x]at c;obtain rfl:=Y1 (Y.symm.trans c);rw[zij (by rw[h.slots,r];exact e2),Jn]
   ·obtain⟨M,I,U⟩:=X0.1 c;have al:s≠d:=fun e=>g (e3 j M I (e ▸ U))
    rw[zbx al,J7 _ _ g];refine h.yes j s c ?_;rw[<-G];simp only[YQ];rw[YP (Ne.symm g)]
  ·by_cases g:j=i
   ·subst g;simp[Array.getD,ac]at G
   ·rw[J7 _ _ g];refine h.no j ?_;have he:(listed.setIfInBounds i true).getD j false=listed.getD j false:=by
     simp only[YQ];rw[YP (Ne.symm g)]
    exact he.symm.trans G
  ·by_cases g:j=i
   ·subst g;rw[Jn]at c;obtain rfl:=Y1 c;exact hv
   ·rw[J7 _ _ g]at c;exact ai j u c
  ·by_cases ad:m=i
   ·subst ad;rw[Jn];simp
   ·rw[J7 _ _ ad];by_cases g:j=i
    ·subst g;obtain⟨oi,L,e,he,Z,rfl⟩:=Region.waitsFor_spec aa;have ae:e.on<ops.size:=Nat.lt_trans (back_of hk L he Z) J;obtain⟨d2,k1,_,_⟩:=zl4 hd (show ops[e.on]?=some ops[e.on] by simp[ae]);rw[hw e.on d2 (by simp[ae,k1]) aa];simp
    ·rw[J7 _ _ g]at c;exact h.down j m aa c
 ·rintro listed a u ⟨f,h⟩ hr;refine fin a u f (h.slots.trans r) h.defers h.kept h.base (fun j d c=>?_) h.done h.more;obtain⟨M,I,U⟩:=X0.1 c;exact h.yes j d c (zka hk h.size hr j (Y8.1 I).1)
 ·intro i d _ G;simp[Array.getD]at G
 ·simp[ze6]
open Go Go.RowKit Lx
theorem Left.appends {base:Nat} {v:Value} {ns ms:List Bs} {w:Zw} {g0 c t:Nat} (h:w.ownsRow base 9 1 v ns.length (za8 ns)) (hl:base<=w.heap.size) (hn:ns.length+ms.length<=1000000) (hm:0<ms.length) (G:SRow w (.slice (Zs g0 c) ms.length t) ms) :
  ∃(g cap:Nat) (r:Zw),(Builtin.append_ #[27,27] 27 #[v,.slice (Zs g0 c) ms.length t]).run Tryz.prog w=.ok (.slice (Zs g 0) (ns.length+ms.length) cap) r/\Left base v w (.slice (Zs g 0) (ns.length+ms.length) cap) (ns++ms) r:=by
 obtain⟨i0,L,M,U,V⟩:=Xx zi0;obtain⟨p',c',Y,hp⟩:=G;injection Y with Z I e3
 subst Z e3;have ad:g0<w.heap.size:=by
  obtain⟨g,o,e,q⟩:=hp 0 ms[0] (by simp);obtain⟨rfl,rfl⟩:g0=g/\c=o:=by simpa using e
  exact J2 q
 obtain⟨g,cap,r,hr,aa,J,ab,_⟩:=run_append_lies (P:=Tryz.prog) w 27 27 base 9 i0 (.string ⟨#[]⟩) 1 16 Tryz.underlying27 L M U V rfl (by decide) v ns.length _
  h ⟨g0,c,none⟩ ms.length t (za8 ms) (by simp[za8])
  (fun j x hx=>by
   obtain⟨s,G,rfl⟩:∃s,ms[j]?=some s/\Value.string ⟨s.toArray⟩=x:=by simpa[za8]using hx
   obtain⟨g,o,e,q⟩:=hp j s G;obtain⟨rfl,rfl⟩:g0=g/\c=o:=by simpa using e
   have ha:(⟨g0,c,none⟩:Addr).add j=⟨g0,c+j,none⟩:=by
    by_cases h0:j=0 <;> simp[Addr.add,h0]
   rw[ha];exact q)
  (by intro u hu;simp[za8]at hu;obtain⟨s,_,rfl⟩:=hu;rfl) (by omega) (by unfold maxLen;omega) (by omega) (by omega) w.heap.size rfl
 refine⟨g,cap,r,hr,by simpa[za8]using aa,(Yu _ _).grown J (by omega) (fun k ek=>(h.lt k ek).1),fun j hj ac=>J.block j hj ac,?_⟩;rcases ab with e|e
 ·exact .inl e.symm
 ·refine .inr fun g2 I=>?_
  have:g=g2:=by simpa[Value.ownBlock]using I
  omega
section
variable {o:Oper} {a:Act} {w:Zw} {K:Act->Zw->Prop} {Q:Exit->Act->Zw->Prop}
theorem zin {x y:Operand} {u v r:Value} {t:TypeId} {w':Zw} (c:o.op=.call { callee:=.builtin .append,args:=#[x,y],argTypes:=#[t,t] }) (g:a.eval x=u) (j:a.eval y=v) (s:(Builtin.append_ #[t,t] o.type #[u,v]).run Tryz.prog w=.ok r w') (h:K (a.put o.dst r) w'):o.wp Tryz.prog a w K Q:=by
 unfold Oper.wp;simp[execOp,c,resolve,invoke,builtin,g,j,s,Result.andThen];exact h
theorem op_len {x:Operand} {p:Zo} {n c:Nat} (g:o.op=.call { callee:=.builtin .len,args:=#[x],argTypes:=#[29] }) (j:a.eval x=.slice p n c) (h:K (a.put o.dst (Zi (n:Int))) w):o.wp Tryz.prog a w K Q:=by
 unfold Oper.wp;simp[execOp,g,resolve,invoke,builtin,j];go_simp;exact h
theorem zk8 {x:Operand} {b i:Nat} (j:i<5) (c:o.op=.fieldAddr 31 x i) (g:a.eval x=.pointer (Zs b 0)) (h:K (a.put o.dst (.pointer (Zs b i))) w):o.wp Tryz.prog a w K Q:=by
 unfold Oper.wp
 match i,j with
 | 0,_=>simp only[execOp,c,g];go_simp;exact h
 | 1,_=>simp only[execOp,c,g];go_simp;exact h
 | 2,_=>simp only[execOp,c,g];go_simp;exact h
 | 3,_=>simp only[execOp,c,g];go_simp;exact h
 | 4,_=>simp only[execOp,c,g];go_simp;exact h
theorem zb7 {x:Operand} {s:Zy} (c:o.op=.buildSlice 27 1 #[(0,x)]) (g:a.eval x=.string s) (h:K (a.put o.dst (.slice (Zs w.heap.size 0) 1 1)) (w.alloc (.cells #[.string s] 9))):o.wp Tryz.prog a w K Q:=by
 unfold Oper.wp;simp only[execOp,c,Xp,Yf,YG,g];go_simp;exact h
theorem zaz {x:Operand} {b i:Nat} {s:Zy} (c:o.op=.load 9 x) (g:a.eval x=.pointer (Zs b i)) (j:w.cell? ⟨b,i,none⟩=some (.string s)) (h:K (a.put o.dst (.string s)) w):o.wp Tryz.prog a w K Q:=by
 unfold Oper.wp;simp only[execOp,c,g];go_simp;exact h
theorem zkl {x:Operand} {b i:Nat} {p:Zo} {n c:Nat} (g:o.op=.load 27 x) (j:a.eval x=.pointer (Zs b i)) (r:w.cell? ⟨b,i,none⟩=some (.slice p n c)) (h:K (a.put o.dst (.slice p n c)) w):o.wp Tryz.prog a w K Q:=by
 unfold Oper.wp;simp only[execOp,g,j];go_simp;exact h
theorem zk4 {x:Operand} {b i:Nat} {p:Zo} {n c:Nat} (g:o.op=.load 29 x) (j:a.eval x=.pointer (Zs b i)) (r:w.cell? ⟨b,i,none⟩=some (.slice p n c)) (h:K (a.put o.dst (.slice p n c)) w):o.wp Tryz.prog a w K Q:=by
 unfold Oper.wp;simp only[execOp,g,j];go_simp;exact h
theorem ziq {x y:Operand} {g e:Nat} {n c k:Nat} (j:o.op=.indexAddr 27 x y) (r:a.eval x=.slice (Zs g e) n c) (s:a.eval y=Zi (k:Int)) (t:(k:Int)<(n:Int)) (h:K (a.put o.dst (.pointer (Zs g (e+k)))) w):o.wp Tryz.prog a w K Q:=by
 unfold Oper.wp;simp only[execOp,j,r,s];go_simp;exact h
theorem zi8 {x y:Operand} {g e:Nat} {n c k:Nat} (j:o.op=.indexAddr 29 x y) (r:a.eval x=.slice (Zs g e) n c) (s:a.eval y=Zi (k:Int)) (t:(k:Int)<(n:Int)) (h:K (a.put o.dst (.pointer (Zs g (e+k*5)))) w):o.wp Tryz.prog a w K Q:=by
 unfold Oper.wp;simp only[execOp,j,r,s];go_simp;exact h
end
abbrev Link:Type:=Nat×Nat×List Bs
def Jw (f:Nat->Option Value):Value->List Link->Value
 | v,[]=>v
 | v,k::r=>match f k.1 with
  | none=>v
  | some u=>Jw f u r
def Jk (f:Nat->Option Value):List Bs->List Link->List Bs
 | L,[]=>L
 | L,k::r=>match f k.1 with
  | none=>L
  | some _=>Jk f (L++k.2.2) r
def Js (f:Nat->Option Value) (s0:Nat) (pre:Option Value) (l:List Link):Option Value:=
 match f s0 with
 | none=>pre
 | some v=>some (Jw f v l)
theorem zhz {f:Nat->Option Value} {i:Nat} (x:Value):∀(v:Value) (l:List Link),(∀k∈l,k.1≠i)->Jw (JT f i x) v l=Jw f v l
 | v,[],_=>rfl
 | v,k::r,h=>by
  unfold Jw;rw[J7 f x (h k (by simp))]
  cases f k.1 with
  | none=>rfl
  | some u=>exact zhz x u r fun k c=>h k (by simp[c])
theorem zgd {f:Nat->Option Value} {i:Nat} (x:Value):∀(L:List Bs) (l:List Link),(∀k∈l,k.1≠i)->Jk (JT f i x) L l=Jk f L l
 | L,[],_=>rfl
 | L,k::r,h=>by
  unfold Jk;rw[J7 f x (h k (by simp))]
  cases f k.1 with
  | none=>rfl
  | some u=>exact zgd x _ r fun k c=>h k (by simp[c])
theorem zfj {f:Nat->Option Value} {i s0:Nat} {pre:Option Value} {l:List Link} (x:Value) (c:s0≠i) (h:∀k∈l,k.1≠i):Js (JT f i x) s0 pre l=Js f s0 pre l:=by
 unfold Js;rw[J7 f x c]
 cases f s0 with
 | none=>rfl
 | some v=>simp only[zhz x v l h]
def XCh (base s0 z:Nat) (pre:Option Value) (L0:List Bs) (l:List Link) (f:Nat->Option Value) (W:Zw):Prop:=
 (∀v,f z=some v->Js f s0 pre l=some v) /\
 (∀k∈l,f k.1=none->∀u,f k.2.1=some u->SRow W u k.2.2/\∀g,u.ownBlock=some g->g<W.heap.size) /\
 ∀h,Js f s0 pre l=some h->W.ownsRow base 9 1 h (Jk f L0 l).length (za8 (Jk f L0 l))/\∀k∈l,f k.1=none->∀u,f k.2.1=some u->∀g,u.ownBlock=some g->h.ownBlock≠some g
theorem Qd {base s0 z:Nat} {pre:Option Value} {L0:List Bs} {l:List Link} {W:Zw} (h:∀v,pre=some v->W.ownsRow base 9 1 v L0.length (za8 L0)):XCh base s0 z pre L0 l (fun _=>none) W:=by
 refine⟨(fun v c=>nomatch c),(fun k _ _ u hu=>nomatch hu),fun v c=>⟨?_,(fun k _ _ u hu=>nomatch hu)⟩⟩;have e:Jk (fun _=>none) L0 l=L0:=by cases l <;> rfl
 rw[e];exact h v c
theorem XCh.other {base s0 z i:Nat} {pre:Option Value} {L0:List Bs} {l:List Link} {f:Nat->Option Value} {W W':Zw} {v:Value} (hz:i=z->Js f s0 pre l=some v) (J:s0≠i) (j:∀k∈l,k.1≠i/\k.2.1≠i) (h:XCh base s0 z pre L0 l f W) (s:ZB W W'):XCh base s0 z pre L0 l (JT f i v) W':=by
 have t:=Je s;refine⟨fun x r=>?_,fun k c e u hu=>?_,fun x r=>?_⟩
 ·rw[zfj v J fun k c=>(j k c).1];by_cases e:z=i
  ·subst e;rw[Jn]at r;rw[<-r];exact hz rfl
  ·rw[J7 f v e]at r;exact h.1 x r
 ·rw[J7 f v (j k c).1]at e;rw[J7 f v (j k c).2]at hu;obtain⟨G,I⟩:=h.2.1 k c e u hu;exact⟨G.below s,fun g t=>Yz (I g t) s.size⟩
 ·rw[zfj v J fun k c=>(j k c).1]at r;rw[zgd v _ _ fun k c=>(j k c).1];obtain⟨G,I⟩:=h.2.2 x r;refine⟨G.kept t (by cases x.ownBlock <;> simp),fun k c e u hu=>?_⟩;rw[J7 f v (j k c).1]at e;rw[J7 f v (j k c).2]at hu;exact I k c e u hu
theorem XCh.source {base s0 z i:Nat} {pre:Option Value} {L0 M:List Bs} {l:List Link} {f:Nat->Option Value} {W W':Zw} {v:Value} (hz:z≠i) (L:s0≠i) (j:∀k∈l,k.1≠i/\(k.2.1=i->k.2.2=M)) (h:XCh base s0 z pre L0 l f W) (I:ZB W W') (Y:SRow W' v M) (U:∀g,v.ownBlock=some g->W.heap.size<=g/\g<W'.heap.size):XCh base s0 z pre L0 l (JT f i v) W':=by
 have s:=Je I;refine⟨fun x t=>?_,fun k c e u hu=>?_,fun x t=>?_⟩
 ·rw[zfj v L fun k c=>(j k c).1];rw[J7 f v hz]at t;exact h.1 x t
 ·rw[J7 f v (j k c).1]at e;by_cases r:k.2.1=i
  ·rw[r,Jn]at hu;obtain rfl:=Y1 hu;rw[(j k c).2 r];exact⟨Y,fun g s=>(U g s).2⟩
  ·rw[J7 f v r]at hu;obtain⟨G,J⟩:=h.2.1 k c e u hu;exact⟨G.below I,fun g s=>Yz (J g s) I.size⟩
 ·rw[zfj v L fun k c=>(j k c).1]at t;rw[zgd v _ _ fun k c=>(j k c).1];obtain⟨G,J⟩:=h.2.2 x t;refine⟨G.kept s (by cases x.ownBlock <;> simp),fun k c e u hu g V=>?_⟩;rw[J7 f v (j k c).1]at e;by_cases r:k.2.1=i
  ·rw[r,Jn]at hu;obtain rfl:=Y1 hu;intro Z;have h1:=(G.lt g Z).2;have h2:=(U g V).1;omega
  ·rw[J7 f v r]at hu;exact J k c e u hu g V
theorem XCh.start {base s0 z:Nat} {pre:Option Value} {L0:List Bs} {l:List Link} {f:Nat->Option Value} {W:Zw} {v:Value} (hp:pre=some v) (s:f s0=none) (hz:z≠s0) (t:f z=none) (G:∀k∈l,f k.1=none) (j:∀k∈l,k.1≠s0/\k.2.1≠s0) (h:XCh base s0 z pre L0 l f W):XCh base s0 z pre L0 l (JT f s0 v) W:=by
 refine⟨(fun x c=>by rw[J7 f v hz,t]at c;cases c),fun k g e u hu=>?_,fun x c=>?_⟩
 ·rw[J7 f v (j k g).1]at e;rw[J7 f v (j k g).2]at hu;exact h.2.1 k g e u hu
 ·have I:x=v:=by
   unfold Js at c;rw[Jn]at c;simp only at c;rw[zhz v _ _ fun k g=>(j k g).1]at c
   cases l with
   | nil=>exact(Y1 c).symm
   | cons k r=>
    unfold Jw at c;rw[G k (by simp)]at c;exact(Y1 c).symm
  subst I;rw[zgd x _ _ fun k g=>(j k g).1];obtain⟨J,L⟩:=h.2.2 x (by unfold Js;rw[s];exact hp);refine⟨J,fun k g e u hu=>?_⟩;rw[J7 f x (j k g).1]at e;rw[J7 f x (j k g).2]at hu;exact L k g e u hu
theorem XCh.fresh {base s0 z:Nat} {L0:List Bs} {l:List Link} {f:Nat->Option Value} {W W':Zw} {v:Value} (hz:z≠s0) (L:f z=none) (G:∀k∈l,f k.1=none) (s:∀k∈l,k.1≠s0/\k.2.1≠s0) (h:XCh base s0 z none L0 l f W) (I:ZB W W') (J:W'.ownsRow W.heap.size 9 1 v L0.length (za8 L0)) (M:base<=W.heap.size):XCh base s0 z none L0 l (JT f s0 v) W':=by
 refine⟨(fun x c=>by rw[J7 f v hz,L]at c;cases c),fun k j e u hu=>?_,fun x c=>?_⟩
 ·rw[J7 f v (s k j).1]at e;rw[J7 f v (s k j).2]at hu;obtain⟨U,V⟩:=h.2.1 k j e u hu;exact⟨U.below I,fun g t=>Yz (V g t) I.size⟩
 ·have Y:x=v:=by
   unfold Js at c;rw[Jn]at c;simp only at c;rw[zhz v _ _ fun k j=>(s k j).1]at c
   cases l with
   | nil=>exact(Y1 c).symm
   | cons k r=>
    unfold Jw at c;rw[G k (by simp)]at c;exact(Y1 c).symm
  subst Y;have e:Jk (JT f s0 x) L0 l=L0:=by
   rw[zgd x _ _ fun k j=>(s k j).1]
   cases l with
   | nil=>rfl
   | cons k r=>unfold Jk;rw[G k (by simp)]
  rw[e];refine⟨J.mono M,fun k j e u hu g t Z=>?_⟩;rw[J7 f x (s k j).1]at e;rw[J7 f x (s k j).2]at hu;have h1:=(h.2.1 k j e u hu).2 g t;have h2:=(J.lt g Z).1;omega
theorem XCh.app {base s0 z c s:Nat} {pre:Option Value} {L0 M:List Bs} {l:List Link} {f:Nat->Option Value} {W:Zw} {h u:Value} (hz:z≠c) (ac:f z=none) (L:XCh base s0 z pre L0 l f W) (G:(c,s,M)∈l) (hh:Js f s0 pre l=some h) (hc:f c=none) (hu:f s=some u) (hm:0<M.length) (ad:base<=W.heap.size) (hn:(Jk f L0 l).length+M.length<=1000000)
  (Y:∀k∈l,k.2.1≠c) (nx:∀v,Js (JT f c v) s0 pre l=some v/\Jk (JT f c v) L0 l=Jk f L0 l++M) :
  ∃(v:Value) (W':Zw),(Builtin.append_ #[27,27] 27 #[h,u]).run Tryz.prog W=.ok v W'/\XCh base s0 z pre L0 l (JT f c v) W'/\Below base W W':=by
 obtain⟨q1,Z⟩:=L.2.2 h hh;obtain⟨r1,r2⟩:=L.2.1 _ G hc u hu;have ae:=r1;obtain⟨p,cp,rfl,hp⟩:=r1;obtain⟨g0,o0,rfl,_⟩:=hp 0 M[0] (by simp);obtain⟨g,cap,W4,E,I⟩:=Left.appends q1 ad hn hm ae;refine⟨_,W4,E,?_,I.2.1⟩;obtain⟨n1,n2⟩:=nx (.slice (Zs g 0) ((Jk f L0 l).length+M.length) cap);have ag:W.grownBy W4 h.ownBlock:=⟨I.2.1.os,I.2.1.tape,I.2.1.output,I.2.1.size,I.2.2.1⟩
 have aa:∀k∈l,JT f c (.slice (Zs g 0) ((Jk f L0 l).length+M.length) cap) k.1=none->f k.1=none/\k.1≠c:=fun k G e=>by
  by_cases V:k.1=c
  ·rw[V,Jn]at e;cases e
  ·rw[J7 f _ V]at e;exact⟨e,V⟩
 refine⟨(fun x r=>by rw[J7 f _ hz,ac]at r;cases r),fun k G e x r=>?_,fun x r=>?_⟩
 ·obtain⟨J,_⟩:=aa k G e;rw[J7 f _ (Y k G)]at r;obtain⟨t1,t2⟩:=L.2.1 k G J x r;refine⟨?_,fun g hg=>Yz (t2 g hg) I.2.1.size⟩;obtain⟨p',c',rfl,af⟩:=t1;refine⟨p',c',rfl,fun j t ht=>?_⟩;obtain⟨g1,o1,rfl,a1⟩:=af j t ht;refine⟨g1,o1,rfl,(World.cell?_of_block (I.2.2.1 g1 (t2 g1 rfl) fun U=>Z k G J _ r g1 rfl U.symm)).trans a1⟩
 ·rw[n1]at r;obtain rfl:=Y1 r;rw[n2];refine⟨by simpa using I.1,fun k G e x r g1 ab U=>?_⟩;obtain⟨J,_⟩:=aa k G e;rw[J7 f _ (Y k G)]at r;have t2:=(L.2.1 k G J x r).2 g1 ab;rcases I.2.2.2 with z|z
  ·exact Z k G J x r g1 ab (z ▸ U)
  ·have:=z g1 U;omega
def VP (vs:List (Option Value)) (i:Nat) (v:Value) (_:Zw):Prop:=∀x,vs.getD i none=some x->v=x
theorem VP.at {vs:List (Option Value)} {i:Nat} {v x:Value} {W:Zw} (h:VP vs i v W) (e:vs.getD i none=some x):v=x:=h x e
theorem Qe {vs:List (Option Value)} {i:Nat} (v:Value) (W:Zw) (e:vs.getD i none=none):VP vs i v W:=fun _ c=>by rw[e]at c;cases c
theorem VP.is {vs:List (Option Value)} {i:Nat} (v:Value) (W:Zw) (e:vs.getD i none=some v):VP vs i v W:=fun _ c=>Y1 (e.symm.trans c)
theorem fold_puts (g:Nat->Value):∀(l:List Oper) (b:Act),(l.foldl (fun b o=>b.put o.dst (g (o.dst.getD 0))) b).tmps.size=b.tmps.size/\(l.foldl (fun b o=>b.put o.dst (g (o.dst.getD 0))) b).defers=b.defers/\∀t,t<b.tmps.size->(l.foldl (fun b o=>b.put o.dst (g (o.dst.getD 0))) b).tmps.getD t undef=if (l.any fun o=>o.dst==some t)=true then g t else b.tmps.getD t undef
 | [],b=>⟨rfl,rfl,fun t _=>by simp⟩
 | o::r,b=>by
  obtain⟨u,x,G⟩:=fold_puts g r (b.put o.dst (g (o.dst.getD 0)));have j:(b.put o.dst (g (o.dst.getD 0))).tmps.size=b.tmps.size:=by cases o.dst <;> simp[Act.put]
  have I:(b.put o.dst (g (o.dst.getD 0))).defers=b.defers:=by cases o.dst <;> simp[Act.put]
  rw[List.foldl_cons];refine⟨u.trans j,x.trans I,fun t s=>?_⟩;rw[G t (by rw[j];exact s),List.any_cons];by_cases c:(r.any fun o=>o.dst==some t)=true
  ·rw[Ye c,Ye (by rw[c,Bool.or_true])]
  ·rw[Y7 c];have J:=(Yb _).mp c;rw[J,Bool.or_false]
   cases hd:o.dst with
   | none=>simp[Act.put]
   | some d=>
    by_cases h:d=t
    ·subst h;rw[zij s];simp
    ·rw[zbx (Ne.symm h),Y7 (by simpa using h)]
theorem JZ {ops:Array Oper} {n:Nat} {a a0:Act} (g:a.tmps.size=n) (h:a0.tmps.size=n) (L:a.defers=a0.defers) (M:∀t,noB ops t=true->a.tmps.getD t undef=a0.tmps.getD t undef):a=ops.toList.foldl (fun b o=>b.put o.dst (a.tmps.getD (o.dst.getD 0) undef)) a0:=by
 obtain⟨j,s,u⟩:=fold_puts (fun d=>a.tmps.getD d undef) ops.toList a0;generalize hr:ops.toList.foldl (fun b o=>b.put o.dst (a.tmps.getD (o.dst.getD 0) undef)) a0=r at j s u ⊢;obtain⟨t,U⟩:=a;obtain⟨x,V⟩:=r;simp only at *;obtain rfl:U=V:=L.trans s.symm
 congr 1
 refine Array.ext (by rw[g,j,h]) fun i G Y=>?_
 have I:=u i (by rw[h,<-g];exact G);have Z:x.getD i undef=x[i]:=by simp[Array.getD,Y]
 have J:t.getD i undef=t[i]:=by simp[Array.getD,G]
 rw[Z]at I;rw[I];by_cases c:(ops.toList.any fun o=>o.dst==some i)=true
 ·rw[Ye c];exact J.symm
 ·rw[Y7 c,<-J];refine M i ?_;unfold noB;rw[Xh];intro o ho;rw[List.any_eq_true]at c;simp only[bne_iff_ne,ne_eq];exact fun e=>c ⟨o,by simpa using ho,by rw[e];simp⟩
theorem op_field5 {o:Oper} {a:Act} {w:Zw} {K:Act->Zw->Prop} {Q:Exit->Act->Zw->Prop} {x:Operand} {b e:Nat} (c:o.op=.fieldAddr 31 x 4) (g:a.eval x=.pointer (Zs b e)) (h:K (a.put o.dst (.pointer (Zs b (e+4)))) w):o.wp Tryz.prog a w K Q:=by
 unfold Oper.wp;simp only[execOp,c,g];go_simp;exact h
section
variable {P:Program} {ops:Array Oper} {Q:Exit->Act->Zw->Prop} {a0:Act} {n base s0 z:Nat} {B:Zw->Prop} {vs:List (Option Value)} {pre:Option Value} {L0:List Bs} {l:List Link} {i:Nat} {o:Oper}
theorem YGoal.plain (I:∀W W',B W->ZB W W'->B W') (hz:z≠i) (J:s0≠i) (L:∀k∈l,k.1≠i/\k.2.1≠i)
  (h:∀(a:Act) (w:Zw) (f:Nat->Option Value),a.tmps.size=n->(∀t,noB ops t=true->a.tmps.getD t undef=a0.tmps.getD t undef)->(∀t j,(ops[j]?).bind (·.dst)=some t->f j=none->a.tmps.getD t undef=a0.tmps.getD t undef)->B w->f i=none->(∀i j,Region.waitsFor .any ops i j=true->f i≠none->f j≠none) ->
   (∀j d x,(ops[j]?).bind (·.dst)=some d->Region.waitsFor .any ops i j=true->vs.getD j none=some x->a.tmps.getD d undef=x) ->
   Region.wanted o (yielded ops a.tmps)=true/\o.wp P a w (fun g w'=>∃v,g=a.put o.dst v/\ZB w w'/\vs.getD i none=some v) Q) :
  YGoal P ops Q a0 n B (VP vs) (XCh base s0 z pre L0 l) i o:=fun a w f M h2 U V r s Y Z down h8=>by
 obtain⟨k1,k2⟩:=h a w f M U V r Z down fun j d x c hw hx=>VP.at (W:=w) (s j _ (h8 j d c hw)) hx
 refine⟨k1,Xo ?_ k2⟩;rintro g w' ⟨v,rfl,G,hv⟩;exact⟨v,rfl,I _ _ r G,VP.is v _ hv,fun j u c=>s j u c,XCh.other (fun e=>absurd e.symm hz) J L Y G⟩
theorem Yp (c:∀W W',B W->ZB W W'->B W') (h:∀(a:Act) (w:Zw),(∀t,noB ops t=true->a.tmps.getD t undef=a0.tmps.getD t undef)->B w->(∀j d x,(ops[j]?).bind (·.dst)=some d->Region.waitsFor .any ops i j=true->vs.getD j none=some x->a.tmps.getD d undef=x)->o.wp P a w (fun g w'=>∃v,g=a.put o.dst v/\ZB w w'/\vs.getD i none=some v) Q) (r:o.guard=none:=by rfl) (hz:z≠i:=by decide) (s:s0≠i:=by decide) (u:∀k∈l,k.1≠i/\k.2.1≠i:=by simp):YGoal P ops Q a0 n B (VP vs) (XCh base s0 z pre L0 l) i o:=YGoal.plain c hz s u fun a w _ _ k _ b _ _ G=>⟨J1 r,h a w k b G⟩
theorem Qf {M:List Bs} (J:∀W W',B W->ZB W W'->B W') (hz:z≠i) (L:s0≠i) (U:∀k∈l,k.1≠i/\(k.2.1=i->k.2.2=M)) (V:vs.getD i none=none)
  (h:∀(a:Act) (w:Zw),a.tmps.size=n->(∀t,noB ops t=true->a.tmps.getD t undef=a0.tmps.getD t undef)->B w ->
   (∀j d x,(ops[j]?).bind (·.dst)=some d->Region.waitsFor .any ops i j=true->vs.getD j none=some x->a.tmps.getD d undef=x) ->
   Region.wanted o (yielded ops a.tmps)=true/\o.wp P a w (fun r w'=>∃v,r=a.put o.dst v/\ZB w w'/\SRow w' v M/\∀g,v.ownBlock=some g->w.heap.size<=g/\g<w'.heap.size) Q) :
  YGoal P ops Q a0 n B (VP vs) (XCh base s0 z pre L0 l) i o:=fun a w f Y h2 Z aa s G h6 ab down h8=>by
 obtain⟨k1,k2⟩:=h a w Y Z s fun j d x c hw hx=>VP.at (W:=w) (G j _ (h8 j d c hw)) hx
 refine⟨k1,Xo ?_ k2⟩;rintro r w' ⟨v,rfl,I,hv,hg⟩;exact⟨v,rfl,J _ _ s I,Qe v _ V,fun j u c=>G j u c,XCh.source hz L U h6 I hv hg⟩
theorem J6 {f:Nat->Option Value} {i j:Nat} (down:∀i j,Region.waitsFor .any ops i j=true->f i≠none->f j≠none) (hw:Region.waitsFor .any ops i j=true) (e:f j=none):f i=none:=Decidable.byContradiction fun h=>down i j hw h e
theorem Qg {v:Value} {x:Operand} (hp:pre=some v) (hz:z≠i) (h:∀k∈l,k.1≠i/\k.2.1≠i) (r:vs.getD i none=none) (s:o.guard=none) (u:o.op=.move x)
  (G:∀f:Nat->Option Value,(∀i j,Region.waitsFor .any ops i j=true->f i≠none->f j≠none)->f i=none->f z=none/\∀k∈l,f k.1=none)
  (I:∀(a:Act) (f:Nat->Option Value),(∀t,noB ops t=true->a.tmps.getD t undef=a0.tmps.getD t undef)->(∀t j,(ops[j]?).bind (·.dst)=some t->f j=none->a.tmps.getD t undef=a0.tmps.getD t undef)->f z=none->a.eval x=v) :
  YGoal Tryz.prog ops Q a0 n B (VP vs) (XCh base i z pre L0 l) i o:=fun a w f Z h2 J L M U V c down h8=>by
 obtain⟨g,Y⟩:=G f down c;exact⟨J1 s,Jp u (I a f J L g) ⟨v,rfl,M,Qe v _ r,U,XCh.start hp c hz g Y h V⟩⟩
theorem Qh (I:∀W W',B W->ZB W W'->B W') (J:∀W,B W->base<=W.heap.size) (hz:z≠i) (L:∀k∈l,k.1≠i/\k.2.1≠i) (M:vs.getD i none=none)
  (U:∀f:Nat->Option Value,(∀i j,Region.waitsFor .any ops i j=true->f i≠none->f j≠none)->f i=none->f z=none/\∀k∈l,f k.1=none)
  (h:∀(a:Act) (w:Zw),a.tmps.size=n->(∀t,noB ops t=true->a.tmps.getD t undef=a0.tmps.getD t undef)->B w ->
   (∀j d x,(ops[j]?).bind (·.dst)=some d->Region.waitsFor .any ops i j=true->vs.getD j none=some x->a.tmps.getD d undef=x) ->
   Region.wanted o (yielded ops a.tmps)=true/\o.wp P a w (fun r w'=>∃v,r=a.put o.dst v/\ZB w w'/\w'.ownsRow w.heap.size 9 1 v L0.length (za8 L0)) Q) :
  YGoal P ops Q a0 n B (VP vs) (XCh base i z none L0 l) i o:=fun a w f V h2 Y ab c s Z aa down h8=>by
 obtain⟨c1,c2⟩:=U f down aa;obtain⟨k1,k2⟩:=h a w V Y c fun j d x g hw hx=>VP.at (W:=w) (s j _ (h8 j d g hw)) hx
 refine⟨k1,Xo ?_ k2⟩;rintro r w' ⟨v,rfl,G,hv⟩;exact⟨v,rfl,I _ _ c G,Qe v _ M,fun j u g=>s j u g,XCh.fresh hz c1 c2 L Z G hv (J _ c)⟩
theorem Qi {M Lq:List Bs} {q s c g:Nat} (I:∀W W',B W->Below base W W'->B W') (J:∀W,B W->base<=W.heap.size) (hz:z≠i) (L:vs.getD i none=none) (U:o.guard=none)
  (V:o.op=.call { callee:=.builtin .append,args:=#[.tmp c,.tmp g],argTypes:=#[27,27] }) (Y:o.type=27)
  (Z:(i,s,M)∈l) (hm:0<M.length) (hn:Lq.length+M.length<=1000000) (aa:∀k∈l,k.2.1≠i) (hq:(ops[q]?).bind (·.dst)=some c) (ab:Region.waitsFor .any ops i q=true) (hs:(ops[s]?).bind (·.dst)=some g) (ac:Region.waitsFor .any ops i s=true)
  (nx:∀(f:Nat->Option Value) (v:Value),(∀i j,Region.waitsFor .any ops i j=true->f i≠none->f j≠none)->f i=none->f q=some v->f z=none/\Js f s0 pre l=some v/\Jk f L0 l=Lq/\∀x,Js (JT f i x) s0 pre l=some x/\Jk (JT f i x) L0 l=Lq++M) :
  YGoal Tryz.prog ops Q a0 n B (VP vs) (XCh base s0 z pre L0 l) i o:=fun a w f h1 h2 h3 ad h h5 h6 r down t=>by
 have eq:=t q c hq ab;have es:=t s g hs ac;obtain⟨n0,n1,u,G⟩:=nx f _ down r eq;obtain⟨v,W',E,hX,hb⟩:=XCh.app hz n0 h6 Z n1 r es hm (J _ h) (by rw[u];exact hn) aa fun x=>⟨(G x).1,by rw[(G x).2,u]⟩
 refine⟨J1 U,zin V rfl rfl (by rw[Y];exact E) ⟨v,rfl,I _ _ h hb,Qe v _ L,h5,hX⟩⟩
theorem Qj {q c:Nat} (g:s0≠i) (h:∀k∈l,k.1≠i/\k.2.1≠i) (r:vs.getD i none=none) (s:o.guard=none) (t:o.op=.assign (.tmp c)) (u:(ops[q]?).bind (·.dst)=some c) (x:Region.waitsFor .any ops i q=true)
  (G:∀(f:Nat->Option Value) (v:Value),(∀i j,Region.waitsFor .any ops i j=true->f i≠none->f j≠none)->f q=some v->Js f s0 pre l=some v) :
  YGoal Tryz.prog ops Q a0 n B (VP vs) (XCh base s0 i pre L0 l) i o:=fun _ _ f _ _ _ _ I J L _ down M=>
 ⟨J1 s,zhv t rfl ⟨_,rfl,I,Qe _ _ r,J,XCh.other (fun _=>G f _ down (M q c u x)) g h L Zr⟩⟩
end
end Go.Proofs.YtdcbglnhhbmpgaaGreatDoor
