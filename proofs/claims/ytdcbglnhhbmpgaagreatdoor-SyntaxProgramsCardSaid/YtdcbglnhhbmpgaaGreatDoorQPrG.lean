/-
  Proved: coillaw2.SyntaxPrograms answers true, whatever program it is handed; the condition is that the three listed variables of the library hold what the program's text lays (the card ties them to it).
-/
import Derived.Test.YtdcbglnhhbmpgaaGreatDoorQCdI
import Derived.Test.YtdcbglnhhbmpgaaGreatDoorQCdG
import Derived.Test.YtdcbglnhhbmpgaaGreatDoorQLaid3
import Derived.ChangeMaps5
import Derived.Carry
set_option maxHeartbeats 2000000
set_option maxRecDepth 100000
namespace Go.Proofs.YtdcbglnhhbmpgaaGreatDoor
open Go Go.RowKit Lx
theorem flat_inv {n:Nat} (s:0<n):∀(es:List (List Value)) (j:Nat) (c:Value),(∀e∈es,e.length=n)->es.flatten[j]?=some c->∃a b u,es[a]?=some u/\u[b]?=some c/\j=a*n+b
 | [],j,c,_,h=>by simp at h
 | x::r,j,c,g,h=>by
  have J:x.length=n:=g x (by simp);rw[List.flatten_cons]at h;rcases YW j n with t|t
  ·rw[YC (by omega)]at h;exact⟨0,j,x,rfl,h,by omega⟩
  ·rw[Yv (by omega)]at h;obtain⟨a,b,u,G,I,L⟩:=flat_inv s r (j-x.length) c (fun e he=>g e (by simp[he])) h;exact⟨a+1,b,u,by simpa using G,I,by rw[Nat.succ_mul];omega⟩
theorem OG.appends {α:Type} {T s:TypeId} {n:Nat} {Q:List Value->α->Prop} {z:Value} {Z B c:Nat} {W:Zw} {v:Value} {xs ys:List α} {p:Zo} (U:Tryz.prog.underlying s=some (.slice T)) (af:(Tryz.prog.info? T).map (fun i=>(i.zero,i.size,i.bytes))=some (some z,n,Z)) (hz:z.cells.size=n) (ac:0<n) (ag:Z<=1000)
  (h:OG T n (fun _=>Q) B W v xs) (hB:B<=W.heap.size) (hs:∀j x,ys[j]?=some x->∃g o u,p=some ⟨g,o,none⟩/\u.length=n/\Q u x/\(∀c∈u,c.oneCell'=true)/\∀i c,u[i]?=some c->W.cell? ⟨g,o+j*n+i,none⟩=some c) (hl:xs.length+ys.length<=1000000) :
  ∃r J,(Builtin.append_ #[s,s] s #[v,.slice p ys.length c]).run Tryz.prog W=.ok r J/\OG T n (fun _=>Q) B J r (xs++ys)/\Below B W J/\(∀j,j<W.heap.size->some j≠v.ownBlock->J.heap[j]?=W.heap[j]?)/\(r.ownBlock=v.ownBlock∨∀g,r.ownBlock=some g->W.heap.size<=g):=by
 obtain⟨es,aa,ad,V,he⟩:=h;obtain⟨i0,L,ah,ai,aj⟩:=Xx af;rcases X1 ys.length with h0|h0
 ·obtain rfl:=YB h0;obtain⟨pv,cv,rfl,hc⟩:=Jh V;have ak:Src Tryz.prog i0.size s (.slice p 0 c) 0 [] W:=by
   cases p with
   | none=>exact Src.ofNil W U c
   | some a=>exact Src.ofSlice W U a 0 c [] (by simp) (fun j u hu=>by simp at hu) (fun u hu=>by simp at hu)
  exact⟨_,W,run_append_nothing W s s s T i0 U L pv xs.length cv hc _ ak,by rw[X7];exact⟨es,aa,ad,V,he⟩,Zr,fun _ _ _=>rfl,.inl rfl⟩
 ·obtain⟨g,o,_,rfl,_⟩:=hs 0 ys[0] (by simp);have hE:∀j,j<ys.length->∃u:List Value,u.length=n/\(∀x,ys[j]?=some x->Q u x)/\(∀c∈u,c.oneCell'=true)/\∀i c,u[i]?=some c->W.cell? ⟨g,o+j*n+i,none⟩=some c:=fun j t=>by
   obtain⟨g',o',u,e,r1,r2,r3,r4⟩:=hs j ys[j] (by simp);obtain⟨rfl,rfl⟩:g=g'/\o=o':=by simpa using e
   refine⟨u,r1,fun x G=>?_,r3,r4⟩;obtain rfl:ys[j]=x:=by rw[Y6 t]at G;exact Y1 G
   exact r2
  have ar:Inhabited (List Value):=⟨[]⟩
  obtain⟨q,Y⟩:=Go.Deep.choose_lt hE;have ab:∀e∈(List.range ys.length).map q,e.length=n:=fun e he=>by
   obtain⟨i,L,rfl⟩:=YF.1 he;exact(Y i (Yy.1 L)).1
  have ae:∀a u,((List.range ys.length).map q)[a]?=some u->∃I:a<ys.length,q a=u:=fun a u hu=>by
   rw[Xd]at hu;have I:a<ys.length:=by
    rcases YW a ys.length with h|h
    ·exact h
    ·rw[X9 (by simpa using h)]at hu;cases hu
   rw[XH I]at hu;exact⟨I,by simpa using hu⟩
  have al:((List.range ys.length).map q).flatten.length=ys.length*n:=by
   have:∀l:List (List Value),(∀e∈l,e.length=n)->l.flatten.length=l.length*n:=fun l=>by
    induction l with
    | nil=>intro _;simp
    | cons x r ih=>intro hl;rw[List.flatten_cons,Y9,ih fun e he=>hl e (by simp[he]),hl x (by simp),Yk,Nat.succ_mul];omega
   rw[this _ ab];simp
  obtain⟨g2,cap,J,hr,am,M,an,_⟩:=run_append_lies (P:=Tryz.prog) W s s B T i0 z n Z U L ah ai aj hz ac v xs.length _ V ⟨g,o,none⟩ ys.length c ((List.range ys.length).map q).flatten al
   (fun j u hu=>by
    obtain⟨a,b,x,e1,e2,rfl⟩:=flat_inv ac _ j u ab hu;obtain⟨I,rfl⟩:=ae a x e1;rw[YT,<-YR];exact(Y a I).2.2.2 b u e2)
   (fun u hu=>by
    obtain⟨e,he,ao⟩:=List.mem_flatten.1 hu;obtain⟨i,L,rfl⟩:=YF.1 he;exact(Y i (Yy.1 L)).2.2.1 u ao)
   h0 (by unfold maxLen;omega) (Yh (Nat.mul_le_mul (show xs.length+ys.length<=1000000 by omega) ag) (by decide)) hB W.heap.size rfl
  refine⟨_,J,hr,⟨es++(List.range ys.length).map q,by simp[aa],fun e he=>?_,by simpa using am,fun j u x t G W' _=>?_⟩,⟨M.os,M.tape,M.output,M.size,fun j t=>M.block j (by omega) fun e=>by have:=(V.lt j e.symm).1;omega⟩,M.block,?_⟩
  ·rcases YZ.1 he with h|h
   ·exact ad e h
   ·exact ab e h
  ·rcases YW j xs.length with ap|aq
   ·rw[YC (by omega)]at t;rw[YC ap]at G;exact he j u x t G W fun _ _ _ _=>rfl
   ·rw[Yv (by omega)]at t;rw[Yv aq]at G;rw[aa]at t;obtain⟨I,rfl⟩:=ae _ u t;exact(Y _ I).2.1 x G
  ·rcases an with e|e
   ·exact .inl e.symm
   ·exact .inr fun g3 e3=>by have:g2=g3:=(by simpa[Value.ownBlock]using e3);omega
def QW (w0:Zw) (E D d m:Nat) (u:List Value) (x:Co E D d m):Prop:=∃y:C10,u=[Zi y.A,.string y.O,.string y.N,.slice y.pq y.nq y.cq,Zi y.T.K,.string y.T.S,.slice y.T.pn y.T.nn y.T.cn,.slice y.T.pe y.T.ne y.T.ce,.slice y.T.pp y.T.np y.T.cp,.slice y.pb y.nb y.cb]/\CoIs w0 E D d m y x
abbrev OC (w0:Zw) (E D d m:Nat) (B:Nat) (W:Zw) (v:Value) (xs:List (Co E D d m)):Prop:=OG 34 10 (fun _=>QW w0 E D d m) B W v xs
theorem OG.below {α:Type} {T:TypeId} {n B:Nat} {Q:List Value->α->Prop} {W W':Zw} {v:Value} {xs:List α} (h:OG T n (fun _=>Q) B W v xs) (c:ZB W W'):OG T n (fun _=>Q) B W' v xs:=by
 obtain⟨es,g,r,s,he⟩:=h;exact⟨es,g,r,s.kept (Je c) (zan _),fun j u x t G _ _=>he j u x t G W fun _ _ _ _=>rfl⟩
def zck {α:Type} (ms c:List α) (z:α) (f:Nat->Option Value):Option (Value×List α):=
 match f 10,f 6,f 3,f 0 with
 | some v,_,_,_=>some (v,ms++c++[z])
 | none,some v,_,_=>some (v,ms++c)
 | none,none,some v,_=>some (v,ms)
 | none,none,none,some v=>some (v,[])
 | none,none,none,none=>none
def XK (w0:Zw) (E D d m B:Nat) (p:Pr E D d m) (mc:List Value) (f:Nat->Option Value) (W:Zw):Prop:=
 (∀v xs,zck p.2.1 p.2.2.1 p.2.2.2 f=some (v,xs)->OC w0 E D d m B W v xs) /\
 (∀u,f 9=some u->∃g,u=.slice (Zs g 0) 1 1/\g<W.heap.size/\(f 10=none->W.heap[g]?=some (.cells mc.toArray 34)/\∀v xs,zck p.2.1 p.2.2.1 p.2.2.2 f=some (v,xs)->v.ownBlock≠some g)) /\
 (∀v,f 11=some v->f 10=some v)
section
variable {w0:Zw} {E D d m B:Nat} {p:Pr E D d m} {mc:List Value} {f:Nat->Option Value} {W W':Zw} {v:Value} {i:Nat}
theorem XK.other (h:XK w0 E D d m B p mc f W) (c:ZB W W') (G:i≠0/\i≠3/\i≠6/\i≠9/\i≠10/\i≠11):XK w0 E D d m B p mc (JT f i v) W':=by
 obtain⟨I,J,L⟩:=h;obtain⟨i0,i3,i6,i9,i10,i11⟩:=G;have M:JT f i v 0=f 0:=J7 f v (Ne.symm i0);have U:JT f i v 3=f 3:=J7 f v (Ne.symm i3);have V:JT f i v 6=f 6:=J7 f v (Ne.symm i6);have Y:JT f i v 9=f 9:=J7 f v (Ne.symm i9);have j:JT f i v 10=f 10:=J7 f v (Ne.symm i10);have Z:JT f i v 11=f 11:=J7 f v (Ne.symm i11);have r:zck p.2.1 p.2.2.1 p.2.2.2 (JT f i v)=zck p.2.1 p.2.2.1 p.2.2.2 f:=by unfold zck;rw[M,U,V,j]
 refine⟨fun v xs e=>?_,fun u e=>?_,fun v e=>?_⟩
 ·rw[r]at e;exact(I v xs e).below c
 ·rw[Y]at e;obtain⟨g,e1,s,t⟩:=J u e;rw[j,r];exact⟨g,e1,Yz s c.size,fun x=>⟨(c.block g s).trans (t x).1,(t x).2⟩⟩
 ·rw[Z]at e;rw[j];exact L v e
theorem XK.step {r:Value} {zs:List (Co E D d m)} {old:Option Nat} (hi:i=0∨i=3∨i=6) (M:f 10=none) (U:f 11=none) (t:zck p.2.1 p.2.2.1 p.2.2.2 (JT f i r)=some (r,zs)) (hold:∀v xs,zck p.2.1 p.2.2.1 p.2.2.2 f=some (v,xs)->v.ownBlock=old) (V:W.heap.size<=W'.heap.size) (h:XK w0 E D d m B p mc f W) (Y:OC w0 E D d m B W' r zs)
  (Z:∀j,j<W.heap.size->some j≠old->W'.heap[j]?=W.heap[j]?) (c:r.ownBlock=old∨∀g,r.ownBlock=some g->W.heap.size<=g) (hw:(zck p.2.1 p.2.2.1 p.2.2.2 f).isSome=true∨old=none):XK w0 E D d m B p mc (JT f i r) W':=by
 obtain⟨h1,h2,h3⟩:=h;have u9:JT f i r 9=f 9:=J7 f r (by omega);have ab:JT f i r 10=f 10:=J7 f r (by omega);have aa:JT f i r 11=f 11:=J7 f r (by omega);refine⟨fun v xs e=>?_,fun u e=>?_,fun v e=>?_⟩
 ·rw[t]at e;obtain⟨rfl,rfl⟩:r=v/\zs=xs:=by simpa using e
  exact Y
 ·rw[u9]at e;obtain⟨g,e1,x,e3⟩:=h2 u e;refine⟨g,e1,Yz x V,fun _=>?_⟩;obtain⟨q1,q2⟩:=e3 M;have G:some g≠old:=fun s=>by
   rcases hw with hw|hw
   ·obtain⟨⟨v,xs⟩,I⟩:=Option.isSome_iff_exists.1 hw;exact q2 v xs I ((hold v xs I).trans s.symm)
   ·rw[hw]at s;cases s
  refine⟨(Z g x G).trans q1,fun v xs J L=>?_⟩;rw[t]at J;obtain⟨rfl,rfl⟩:r=v/\zs=xs:=by simpa using J
  rcases c with c|c
  ·exact G (L.symm.trans c)
  ·have:=c g L;omega
 ·rw[aa,U]at e;cases e
end
theorem cells_src {W:Zw} {g o:Nat} {y:C10} (h:C10At W g o y):∀i c,([Zi y.A,.string y.O,.string y.N,.slice y.pq y.nq y.cq,Zi y.T.K,.string y.T.S,.slice y.T.pn y.T.nn y.T.cn,.slice y.T.pe y.T.ne y.T.ce,.slice y.T.pp y.T.np y.T.cp,.slice y.pb y.nb y.cb]:List Value)[i]?=some c->W.cell? ⟨g,o+i,none⟩=some c:=fun i c r=>by
 obtain⟨a0,s,a2,a3,⟨a4,a5,t,u,x⟩,a9⟩:=h
 match i,r with
 | 0,r=>obtain rfl:=Y1 r;exact a0
 | 1,r=>obtain rfl:=Y1 r;exact s
 | 2,r=>obtain rfl:=Y1 r;exact a2
 | 3,r=>obtain rfl:=Y1 r;exact a3
 | 4,r=>obtain rfl:=Y1 r;exact a4
 | 5,r=>obtain rfl:=Y1 r;exact a5
 | 6,r=>obtain rfl:=Y1 r;exact t
 | 7,r=>obtain rfl:=Y1 r;exact u
 | 8,r=>obtain rfl:=Y1 r;exact x
 | 9,r=>obtain rfl:=Y1 r;exact a9
 | j+10,r=>simp at r
theorem one10 (y:C10):∀c∈([Zi y.A,.string y.O,.string y.N,.slice y.pq y.nq y.cq,Zi y.T.K,.string y.T.S,.slice y.T.pn y.T.nn y.T.cn,.slice y.T.pe y.T.ne y.T.ce,.slice y.T.pp y.T.np y.T.cp,.slice y.pb y.nb y.cb]:List Value),c.oneCell'=true:=(J9 rfl (J9 rfl (J9 rfl (J9 rfl (J9 rfl (J9 rfl (J9 rfl (J9 rfl (J9 rfl (J9 rfl zhm))))))))))
theorem row_src {w0 W:Zw} {E D d m n c:Nat} {p:Zo} {ys:List (Co E D d m)} (h:CoRow w0 E D d m (.slice p n c) ys) (r:ZB w0 W):∀j x,ys[j]?=some x->∃g o u,p=some ⟨g,o,none⟩/\u.length=10/\QW w0 E D d m u x/\(∀c∈u,c.oneCell'=true)/\∀i c,u[i]?=some c->W.cell? ⟨g,o+j*10+i,none⟩=some c:=fun j x s=>by
 obtain⟨_,_,e,hp⟩:=h;injection e with t I J
 subst t;obtain⟨g,o,y,rfl,a0,G⟩:=hp j x s;exact⟨g,o,_,rfl,rfl,⟨y,rfl,G⟩,one10 y,cells_src (a0.below r)⟩
section
variable {o:Oper} {a:Act} {w:Zw} {K:Act->Zw->Prop} {Q:Exit->Act->Zw->Prop}
theorem op_loadCs {x:Operand} {b i:Nat} {p:Zo} {n c:Nat} (g:o.op=.load 23 x) (j:a.eval x=.pointer (Zs b i)) (r:w.cell? ⟨b,i,none⟩=some (.slice p n c)) (h:K (a.put o.dst (.slice p n c)) w):o.wp Tryz.prog a w K Q:=by
 unfold Oper.wp;simp only[execOp,g,j];go_simp;exact h
theorem op_build0 (c:o.op=.buildSlice 23 0 #[]) (h:K (a.put o.dst (.slice (Zs w.heap.size 0) 0 0)) (w.alloc (.cells #[] 34))):o.wp Tryz.prog a w K Q:=by
 unfold Oper.wp;simp only[execOp,c,Xp,YG];go_simp;exact h
theorem op_layCo {x:Operand} {c g j c3 c4 c5 r s t u:Value} (G:o.op=.buildSlice 23 1 #[(0,x)]) (I:a.eval x=.agg #[c,g,j,c3,c4,c5,r,s,t,u]) (h:K (a.put o.dst (.slice (Zs w.heap.size 0) 1 1)) (w.alloc (.cells #[c,g,j,c3,c4,c5,r,s,t,u] 34))):o.wp Tryz.prog a w K Q:=by
 unfold Oper.wp;simp only[execOp,G,Xp,Yf,YG,I];go_simp;exact h
end
section
variable {w0:Zw} {E D d m b:Nat} {p:Pr E D d m} {mc:List Value} {ops:Array Oper} {Q:Exit->Act->Zw->Prop} {a0:Act} {n:Nat} {B:Zw->Prop} {vs:List (Option Value)} {i:Nat} {o:Oper}
theorem Qt (G:i≠0/\i≠3/\i≠6/\i≠9/\i≠10/\i≠11)
  (h:∀(a:Act) (w:Zw),(∀t,noB ops t=true->a.tmps.getD t undef=a0.tmps.getD t undef)->B w ->
   (∀j d x,(ops[j]?).bind (·.dst)=some d->Region.waitsFor .any ops i j=true->vs.getD j none=some x->a.tmps.getD d undef=x) ->
   Region.wanted o (yielded ops a.tmps)=true/\o.wp Tryz.prog a w (fun g w'=>∃v,g=a.put o.dst v/\w'=w/\vs.getD i none=some v) Q) :
  YGoal Tryz.prog ops Q a0 n B (VP vs) (XK w0 E D d m b p mc) i o:=fun a w f _ _ I _ r s J _ _ L=>by
 obtain⟨M,U⟩:=h a w I r fun j d x c hw V=>VP.at (W:=w) (s j _ (L j d c hw)) V
 refine⟨M,Xo ?_ U⟩;rintro g w' ⟨v,rfl,rfl,Y⟩;exact⟨v,rfl,r,VP.is v _ Y,fun j u c=>s j u c,J.other Zr G⟩
theorem KG.first (J:∀W W',B W->ZB W W'->B W') (L:∀W,B W->b<=W.heap.size) (M:o.guard=none) (U:o.op=.buildSlice 23 0 #[]) (V:vs.getD 0 none=none) (d0:Region.waitsFor .any ops 3 0=true) (d1:Region.waitsFor .any ops 6 3=true) (d2:Region.waitsFor .any ops 10 6=true) (d3:Region.waitsFor .any ops 11 10=true) :
  YGoal Tryz.prog ops Q a0 n B (VP vs) (XK w0 E D d m b p mc) 0 o:=fun a w f _ _ _ _ G Y Z I down _=>by
 have r:=J6 down d0 I;have s:=J6 down d1 r;have c:=J6 down d2 s;have aa:=J6 down d3 c;have hh:zck p.2.1 p.2.2.1 p.2.2.2 f=none:=by unfold zck;rw[I,r,s,c]
 refine⟨J1 M,op_build0 U ⟨_,rfl,J _ _ G (sal1 _ _),Qe _ _ V,fun j u t=>Y j u t,XK.step (zs:=[]) (old:=none) (by decide) c aa (by unfold zck;rw[J7 f _ (by decide),J7 f _ (by decide),J7 f _ (by decide),Jn,r,s,c]) (fun v xs e=>by rw[hh]at e;cases e) (by simp) Z ⟨[],rfl,by simp,⟨rfl,.inr ⟨w.heap.size,0,#[],rfl,L w G,Jm w _,Y5 _,by decide,rfl,rfl⟩⟩,fun j u x h=>by simp at h⟩ (fun j t _=>zc2 w _ j t) (.inr fun g e=>?_) (.inr rfl)⟩⟩;have:w.heap.size=g:=by simpa[Value.ownBlock]using e
 omega
theorem KG.app3 {h s c:Nat} {G:Zo} (aa:∀W W',B W->Below b W W'->B W') (ab:∀W,B W->b<=W.heap.size) (hg:o.guard=none) (ho:o.op=.call { callee:=.builtin .append,args:=#[.tmp h,.tmp s],argTypes:=#[23,23] }) (ac:o.type=23) (ad:vs.getD 3 none=none) (hq:(ops[0]?).bind (·.dst)=some h) (ae:Region.waitsFor .any ops 3 0=true) (hs:(ops[2]?).bind (·.dst)=some s) (af:Region.waitsFor .any ops 3 2=true) (ag:vs.getD 2 none=some (.slice G (p.2.1).length c)) (d1:Region.waitsFor .any ops 6 3=true) (d2:Region.waitsFor .any ops 10 6=true) (d3:Region.waitsFor .any ops 11 10=true)
  (hR:∀W,B W->∀j x,(p.2.1)[j]?=some x->∃g o u,G=some ⟨g,o,none⟩/\u.length=10/\QW w0 E D d m u x/\(∀c∈u,c.oneCell'=true)/\∀i c,u[i]?=some c->W.cell? ⟨g,o+j*10+i,none⟩=some c) (hl:p.2.1.length+p.2.2.1.length<=1000000):YGoal Tryz.prog ops Q a0 n B (VP vs) (XK w0 E D d m b p mc) 3 o:=fun a w f _ _ _ _ I M U V down Y=>by
 have fq:=Y 0 h hq ae;have es:a.tmps.getD s undef=.slice G (p.2.1).length c:=VP.at (W:=w) (M 2 _ (Y 2 s hs af)) ag;have J:=J6 down d1 V;have t:=J6 down d2 J;have ah:=J6 down d3 t;have L:zck p.2.1 p.2.2.1 p.2.2.2 f=some (a.tmps.getD h undef,[]):=by unfold zck;rw[t,J,V,fq]
 obtain⟨r,W4,E1,hO,Z,hk,ai⟩:=OG.appends (c:=c) Tryz.underlying23 info_co rfl (by decide) (by decide) (U.1 _ _ L) (ab w I) (hR w I) (by simp;omega);refine⟨J1 hg,zem ho rfl es (by rw[ac];exact E1) ⟨r,rfl,aa _ _ I Z,Qe _ _ ad,fun j u hj=>M j u hj,XK.step (zs:=[]++p.2.1) (old:=(a.tmps.getD h undef).ownBlock) (by decide) t ah (by unfold zck;rw[J7 f _ (by decide),J7 f _ (by decide),Jn,t,J];rfl) (fun v xs e=>?_) Z.size U hO hk ai (.inl (by rw[L];rfl))⟩⟩;rw[L]at e;rw[show a.tmps.getD h undef=v from congrArg Prod.fst (Y1 e)]
theorem KG.app6 {h s c:Nat} {G:Zo} (Z:∀W W',B W->Below b W W'->B W') (aa:∀W,B W->b<=W.heap.size) (hg:o.guard=none) (ho:o.op=.call { callee:=.builtin .append,args:=#[.tmp h,.tmp s],argTypes:=#[23,23] }) (ab:o.type=23) (ac:vs.getD 6 none=none) (hq:(ops[3]?).bind (·.dst)=some h) (ad:Region.waitsFor .any ops 6 3=true) (hs:(ops[5]?).bind (·.dst)=some s) (ae:Region.waitsFor .any ops 6 5=true) (af:vs.getD 5 none=some (.slice G (p.2.2.1).length c)) (d2:Region.waitsFor .any ops 10 6=true) (d3:Region.waitsFor .any ops 11 10=true)
  (hR:∀W,B W->∀j x,(p.2.2.1)[j]?=some x->∃g o u,G=some ⟨g,o,none⟩/\u.length=10/\QW w0 E D d m u x/\(∀c∈u,c.oneCell'=true)/\∀i c,u[i]?=some c->W.cell? ⟨g,o+j*10+i,none⟩=some c) (hl:p.2.1.length+p.2.2.1.length<=1000000):YGoal Tryz.prog ops Q a0 n B (VP vs) (XK w0 E D d m b p mc) 6 o:=fun a w f _ _ _ _ I L M U down V=>by
 have fq:=V 3 h hq ad;have es:a.tmps.getD s undef=.slice G (p.2.2.1).length c:=VP.at (W:=w) (L 5 _ (V 5 s hs ae)) af;have t:=J6 down d2 U;have ag:=J6 down d3 t;have J:zck p.2.1 p.2.2.1 p.2.2.2 f=some (a.tmps.getD h undef,p.2.1):=by unfold zck;rw[t,U,fq]
 obtain⟨r,W4,E1,hO,Y,hk,ah⟩:=OG.appends (c:=c) Tryz.underlying23 info_co rfl (by decide) (by decide) (M.1 _ _ J) (aa w I) (hR w I) (hl);refine⟨J1 hg,zem ho rfl es (by rw[ab];exact E1) ⟨r,rfl,Z _ _ I Y,Qe _ _ ac,fun j u hj=>L j u hj,XK.step (zs:=p.2.1++p.2.2.1) (old:=(a.tmps.getD h undef).ownBlock) (by decide) t ag (by unfold zck;rw[J7 f _ (by decide),Jn,t]) (fun v xs e=>?_) Y.size M hO hk ah (.inl (by rw[J];rfl))⟩⟩;rw[J]at e;rw[show a.tmps.getD h undef=v from congrArg Prod.fst (Y1 e)]
theorem KG.lay {d8:Nat} {y:C10} (G:∀W W',B W->ZB W W'->B W') (I:o.guard=none) (J:o.op=.buildSlice 23 1 #[(0,.tmp d8)]) (L:vs.getD 9 none=none) (M:mc=[Zi y.A,.string y.O,.string y.N,.slice y.pq y.nq y.cq,Zi y.T.K,.string y.T.S,.slice y.T.pn y.T.nn y.T.cn,.slice y.T.pe y.T.ne y.T.ce,.slice y.T.pp y.T.np y.T.cp,.slice y.pb y.nb y.cb]) (U:∀a:Act,(∀j d x,(ops[j]?).bind (·.dst)=some d->Region.waitsFor .any ops 9 j=true->vs.getD j none=some x->a.tmps.getD d undef=x)->a.tmps.getD d8 undef=y.val) (d2:Region.waitsFor .any ops 10 9=true) (d3:Region.waitsFor .any ops 11 10=true) :
  YGoal Tryz.prog ops Q a0 n B (VP vs) (XK w0 E D d m b p mc) 9 o:=fun a w f _ _ _ _ V g h Y down Z=>by
 have aa:=J6 down d2 Y;have ab:=J6 down d3 aa;have r:ZB w (w.alloc (.cells #[Zi y.A,.string y.O,.string y.N,.slice y.pq y.nq y.cq,Zi y.T.K,.string y.T.S,.slice y.T.pn y.T.nn y.T.cn,.slice y.T.pe y.T.ne y.T.ce,.slice y.T.pp y.T.np y.T.cp,.slice y.pb y.nb y.cb] 34)):=sal1 _ _;have s:∀v,zck p.2.1 p.2.2.1 p.2.2.2 (JT f 9 v)=zck p.2.1 p.2.2.1 p.2.2.2 f:=fun v=>by unfold zck;rw[J7 f v (by decide),J7 f v (by decide),J7 f v (by decide),J7 f v (by decide)]
 refine⟨J1 I,op_layCo J (U a fun j d _ c hw hx=>VP.at (W:=w) (g j _ (Z j d c hw)) hx) ⟨_,rfl,G _ _ V r,Qe _ _ L,fun j u c=>g j u c,⟨fun v xs e=>?_,fun u e=>?_,fun v e=>?_⟩⟩⟩
 ·rw[s]at e;exact(h.1 v xs e).below r
 ·rw[Jn]at e;refine⟨w.heap.size,(Y1 e).symm,by simp,fun _=>⟨by rw[M];exact Jm w _,fun v xs t e3=>?_⟩⟩;rw[s]at t;have:=(h.1 v xs t).lt _ e3;omega
 ·rw[J7 f _ (by decide),ab]at e;cases e
theorem KG.app10 {s t:Nat} {y:C10} (Y:∀W W',B W->Below b W W'->B W') (Z:∀W,B W->b<=W.heap.size) (hg:o.guard=none) (ho:o.op=.call { callee:=.builtin .append,args:=#[.tmp s,.tmp t],argTypes:=#[23,23] }) (aa:o.type=23) (ab:vs.getD 10 none=none) (hq:(ops[6]?).bind (·.dst)=some s) (ac:Region.waitsFor .any ops 10 6=true) (hs:(ops[9]?).bind (·.dst)=some t) (ad:Region.waitsFor .any ops 10 9=true) (d3:Region.waitsFor .any ops 11 10=true)
  (ae:mc=[Zi y.A,.string y.O,.string y.N,.slice y.pq y.nq y.cq,Zi y.T.K,.string y.T.S,.slice y.T.pn y.T.nn y.T.cn,.slice y.T.pe y.T.ne y.T.ce,.slice y.T.pp y.T.np y.T.cp,.slice y.pb y.nb y.cb]) (hy:CoIs w0 E D d m y p.2.2.2) (hl:p.2.1.length+p.2.2.1.length+1<=1000000):YGoal Tryz.prog ops Q a0 n B (VP vs) (XK w0 E D d m b p mc) 10 o:=fun a w f _ _ _ _ J h5 G I down L=>by
 have fq:=L 6 s hq ac;have fs:=L 9 t hs ad;have af:=J6 down d3 I;have hh:zck p.2.1 p.2.2.1 p.2.2.2 f=some (a.tmps.getD s undef,p.2.1++p.2.2.1):=by unfold zck;rw[I,fq]
 obtain⟨g,eg,g1,g2⟩:=G.2.1 _ fs;obtain⟨M,_⟩:=g2 I;rw[ae]at M;obtain⟨r,W4,E1,hO,U,hk,ag⟩:=OG.appends (c:=1) (ys:=[p.2.2.2]) (p:=some ⟨g,0,none⟩) Tryz.underlying23 info_co rfl (by decide) (by decide) (G.1 _ _ hh) (Z w J) (fun j x V=>by
  obtain⟨rfl,rfl⟩:j=0/\p.2.2.2=x:=by
   cases j with
   | zero=>exact⟨rfl,by simpa using V⟩
   | succ j=>simp at V
  exact⟨g,0,_,rfl,rfl,⟨y,rfl,hy⟩,one10 y,fun i c hc=>by rw[Y0 M,Xt,X3];simpa using hc⟩) (by simp;omega)
 refine⟨J1 hg,zem ho rfl eg (by rw[aa];exact E1) ⟨r,rfl,Y _ _ J U,Qe _ _ ab,fun j u hj=>h5 j u hj,⟨fun v xs e=>?_,fun u e=>?_,fun v e=>?_⟩⟩⟩
 ·unfold zck at e;rw[Jn]at e;obtain⟨rfl,rfl⟩:r=v/\p.2.1++p.2.2.1++[p.2.2.2]=xs:=by simpa using e
  exact hO
 ·rw[J7 f _ (by decide)]at e;obtain⟨g',e1,e2,_⟩:=G.2.1 u e;exact⟨g',e1,Yz e2 U.size,fun h=>by rw[Jn]at h;cases h⟩
 ·rw[J7 f _ (by decide),af]at e;cases e
theorem KG.assign {c:Nat} (r:o.guard=none) (s:o.op=.assign (.tmp c)) (t:vs.getD 11 none=none) (x:(ops[10]?).bind (·.dst)=some c) (G:Region.waitsFor .any ops 11 10=true):YGoal Tryz.prog ops Q a0 n B (VP vs) (XK w0 E D d m b p mc) 11 o:=fun a w f _ _ _ _ I J h _ _ L=>by
 have M:=L 10 c x G;have j:∀v,zck p.2.1 p.2.2.1 p.2.2.2 (JT f 11 v)=zck p.2.1 p.2.2.1 p.2.2.2 f:=fun v=>by unfold zck;rw[J7 f v (by decide),J7 f v (by decide),J7 f v (by decide),J7 f v (by decide)]
 refine⟨J1 r,zhv s rfl ⟨_,rfl,I,Qe _ _ t,J,⟨fun v xs e=>h.1 v xs (by rw[j]at e;exact e),fun u e=>?_,fun v e=>?_⟩⟩⟩
 ·rw[J7 f _ (by decide)]at e;obtain⟨g,U,V,Y⟩:=h.2.1 u e;rw[J7 f _ (by decide),j];exact⟨g,U,V,Y⟩
 ·rw[Jn]at e;rw[J7 f _ (by decide),M];exact e
end
theorem XK.init (w0:Zw) (E D d m b:Nat) (p:Pr E D d m) (mc:List Value) (W:Zw):XK w0 E D d m b p mc (fun _=>none) W:=⟨fun _ _ h=>by simp[zck]at h,(fun _ h=>nomatch h),fun _ h=>nomatch h⟩
theorem load_midg {ops:Array Oper} {rest:List Oper} {op:Oper} {a:Act} {w:Zw} {Q:Exit->Act->Zw->Prop} (c:Region.wanted op (yielded ops a.tmps)=true) (ty:TypeId) (x:Operand) (g:op.op=.load ty x)
  (b o:Nat) (j:a.eval x=.pointer (Zs b o)) (cs:List Value) (d:TypeDesc) (r:w.rangeAt b o cs)
  (hu:Tryz.prog.underlying ty=some d) (hd:d.isRow=true) (s:(Tryz.prog.info? ty).map (·.size)=some cs.length)
  (h:wpList Tryz.prog ops Q rest (a.put op.dst (.agg cs.toArray)) w):wpList Tryz.prog ops Q (op::rest) a w:=
 Go.BigFrame.wpList_want c fun _ t=>wp_load_mid ty x g b o j cs d r hu hd s (t _ _ h)
theorem ans_tup (z:Sum Nat Bs):∃(X:Zy) (Y:Int),JI z=.tuple #[.string X,Zi Y]:=by
 rcases z with y|s
 ·exact⟨_,_,rfl⟩
 ·exact⟨_,_,rfl⟩
theorem fits_any (r:Bool) (X:Zy) (Y:Int) (v:Value) (c:List Bs) (w:Zw) (h:r=true->JI (zdd c)=.tuple #[.string X,Zi Y]/\SRow w v c/\c.length<=1000000/\∀s∈c,s.length<=1000000) (g:r=false->JI (.inl 1)=.tuple #[.string X,Zi Y]) :
  ZC 10 #[.string X,Zi Y,.bool r,v] w (.bool true):=by
 cases r with
 | true=>
  obtain⟨j,t,u,x⟩:=h rfl;exact fits_yes X Y v c w j t u x
 | false=>
  have h:=g rfl;simp[JI]at h;obtain⟨rfl,rfl⟩:=h;exact fits_no v w
theorem codeAns_is {E D d m:Nat} (c:Co E D d m) (z:Value) (h:JI (zhg E D d m c)=z):(JD E D d m c=true->JI (zdd (coS E D d m c))=z)/\(JD E D d m c=false->JI (.inl 1)=z):=by
 refine⟨fun g=>by rw[co_text g];exact h,fun g=>?_⟩;rw[zhg,Y7 (by rw[g];simp)]at h;exact h
theorem progAns_is {E D d m:Nat} (c:Pr E D d m) (z:Value) (h:JI (zhs E D d m c)=z):(zb9 E D d m c=true->JI (zdd (prS E D d m c))=z)/\(zb9 E D d m c=false->JI (.inl 1)=z):=by
 refine⟨fun g=>by rw[pr_text g];exact h,fun g=>?_⟩;rw[zhs,Y7 (by rw[g];simp)]at h;exact h
def vL11 (g0:Nat) (A K:Int) (O N S:Zy) (pm pf pq pn pe pp pb:Zo) (nm cm nf cf nq cq nn cn ne ce np cp nb cb:Nat):List (Option Value):=[none,some (.pointer (Zs g0 1)),some (.slice pm nm cm),none,some (.pointer (Zs g0 2)),some (.slice pf nf cf),none,some (.pointer (Zs g0 3)),some (.agg #[Zi A,.string O,.string N,.slice pq nq cq,Zi K,.string S,.slice pn nn cn,.slice pe ne ce,.slice pp np cp,.slice pb nb cb]),none,none,none]
def Lst (W:Zw) (v:Value) (r:Bool) (L:List Bs):Prop:=(∃p n c,v=.slice p n c)/\(r=true->SRow W v L)
theorem Lst.below {w w':Zw} {v:Value} {r:Bool} {L:List Bs} (h:Lst w v r L) (c:ZB w w'):Lst w' v r L:=⟨h.1,fun e=>(h.2 e).below c⟩
theorem zi2 (E D d m:Nat) (x:P13) (p:Pr E D d m) (w:Zw) (t:PrIs w E D d m x p) (wf:PrO E D d m p) (b1:Tab w) (ap:4<=w.heap.size) :
  ZC 3 #[x.val] w (.bool true):=by
 obtain⟨pd,nd,cd,pm,nm,cm,pf,nf,cf,⟨A,O,N,pq,nq,cq,⟨K,S,pn,pe,pp,nn,cn,ne,ce,np,cp⟩,pb,nb,cb⟩⟩:=x;have bv:=J3 t;have bg:=J3 wf;have bw:=J3 b1;have b2:ZH (CoRow w E D d m (.slice pm nm cm) p.2.1):=t.2.1;have b3:ZH (CoRow w E D d m (.slice pf nf cf) p.2.2.1):=t.2.2.1;have b4:ZH (CoIs w E D d m ⟨A,O,N,pq,nq,cq,⟨K,S,pn,pe,pp,nn,cn,ne,ce,np,cp⟩,pb,nb,cb⟩ p.2.2.2):=t.2.2.2;have b5:ZH (nm=p.2.1.length):=t.2.1.len;have b6:ZH (nf=p.2.2.1.length):=t.2.2.1.len;clear t wf b1;go_enter Tryz.func3,Tryz.ntmps3;go_upto_region 1 with fail
 obtain⟨W0,bh⟩:∃W:Zw,W=w.alloc (Obj.cells #[.slice pd nd cd,.slice pm nm cm,.slice pf nf cf,Zi A,.string O,.string N,.slice pq nq cq,Zi K,.string S,.slice pn nn cn,.slice pe ne ce,.slice pp np cp,.slice pb nb cb] 36):=⟨_,rfl⟩
 obtain⟨g0,bz⟩:∃g:Nat,g=w.heap.size:=⟨_,rfl⟩
 rw[<-bh,<-bz];have b7:ZH (ZL13 W0 g0 (.slice pd nd cd) (.slice pm nm cm) (.slice pf nf cf) (Zi A) (.string O) (.string N) (.slice pq nq cq) (Zi K) (.string S) (.slice pn nn cn) (.slice pe ne ce) (.slice pp np cp) (.slice pb nb cb)):=by rw[bh,bz];exact zbj (x:=⟨pd,nd,cd,pm,nm,cm,pf,nf,cf,⟨A,O,N,pq,nq,cq,⟨K,S,pn,pe,pp,nn,cn,ne,ce,np,cp⟩,pb,nb,cb⟩⟩) Zr
 have H0:ZH (ZB w W0):=by rw[bh];exact Za _ _
 clear bh bz;have ae:ZH (∀V,ZB W0 V->ZB w V):=fun V h=>Zn H0 h
 have bA:ZH (∀V,ZB W0 V->ZL13 V g0 (.slice pd nd cd) (.slice pm nm cm) (.slice pf nf cf) (Zi A) (.string O) (.string N) (.slice pq nq cq) (Zi K) (.string S) (.slice pn nn cn) (.slice pe ne ce) (.slice pp np cp) (.slice pb nb cb)):=fun V h=>zc1 b7 h
 have b8:∀V,ZB W0 V->V.rangeAt g0 0 [.slice pd nd cd,.slice pm nm cm,.slice pf nf cf,Zi A,.string O,.string N,.slice pq nq cq,Zi K,.string S,.slice pn nn cn,.slice pe ne ce,.slice pp np cp,.slice pb nb cb]:=fun V h=>by
  obtain⟨cJ,bB,cK,c3,c4,c5,cL,cM,cN,cO,cP,cQ,cR⟩:=bA V h;intro j v t
  match j,t with
  | 0,t=>obtain rfl:=Y1 t;exact cJ
  | 1,t=>obtain rfl:=Y1 t;exact bB
  | 2,t=>obtain rfl:=Y1 t;exact cK
  | 3,t=>obtain rfl:=Y1 t;exact c3
  | 4,t=>obtain rfl:=Y1 t;exact c4
  | 5,t=>obtain rfl:=Y1 t;exact c5
  | 6,t=>obtain rfl:=Y1 t;exact cL
  | 7,t=>obtain rfl:=Y1 t;exact cM
  | 8,t=>obtain rfl:=Y1 t;exact cN
  | 9,t=>obtain rfl:=Y1 t;exact cO
  | 10,t=>obtain rfl:=Y1 t;exact cP
  | 11,t=>obtain rfl:=Y1 t;exact cQ
  | 12,t=>obtain rfl:=Y1 t;exact cR
  | j+13,t=>simp at t
 have ag:=J3 b8;clear b8;have b9:ZH (∀V,ZB W0 V->Zg 5 #[] V fun e w'=>e=.returned (.bool true)/\ZB w w'):=fun V h=>
  (SyntaxRuns_any V (bw.below (ae V h) ap) (Yh ap (ae V h).size)).mono fun e w' ⟨he,cS⟩=>⟨he,bon (ae V h) cS⟩
 have b':=J3 (sizeP_any E D d m ⟨pd,nd,cd,pm,nm,cm,pf,nf,cf,⟨A,O,N,pq,nq,cq,⟨K,S,pn,pe,pp,nn,cn,ne,ce,np,cp⟩,pb,nb,cb⟩⟩ p w bv bg 20000 20000 W0 rfl H0 (by decide) (by decide));have J:=ag _ Zr;go_wp2_with (((with_reducible refine wpList_load_mid ?_ 36 (.tmp 1) ?_ g0 0 ?_ _ _ (J) Tryz.underlying36 ?_ ?_ ?_);(rfl);(rfl);(rfl);(rfl);(kernel_rfl)));refine b'.mono ?_;rintro _ cT ⟨⟨bC,rfl,cU,ca⟩,cc⟩;have aw:=J3 cc;clear cc b' J;by_cases bB:bC<20000
 rotate_left
 ·have cV:(20000:Int)<=(bC:Int):=by omega
  go_wp2_with fail;refine(b9 _ aw).mono ?_;rintro _ ax ⟨rfl,aq⟩;go_wp2_with fail;go_ret;exact⟨rfl,aq⟩
 have cV:(bC:Int)<20000:=by omega
 have ac:ZH (szPr E D d m p<=20000):=by have:=ca bB;show _<=_;omega
 have bi:=J3 (pr_of (Yh ac (by decide)) bg);clear ca cU;have ay:ZH (∀V,ZB W0 V->PrIs V E D d m ⟨pd,nd,cd,pm,nm,cm,pf,nf,cf,⟨A,O,N,pq,nq,cq,⟨K,S,pn,pe,pp,nn,cn,ne,ce,np,cp⟩,pb,nb,cb⟩⟩ p):=fun V h=>bv.below (ae V h)
 have cg:=J3 (ownp_any E D d m ⟨pd,nd,cd,pm,nm,cm,pf,nf,cf,⟨A,O,N,pq,nq,cq,⟨K,S,pn,pe,pp,nn,cn,ne,ce,np,cp⟩,pb,nb,cb⟩⟩ p cT (ay _ aw) (Yh ac (by decide)));have J:=ag _ aw;go_wp2_with (((with_reducible refine wpList_load_mid ?_ 36 (.tmp 1) ?_ g0 0 ?_ _ _ (J) Tryz.underlying36 ?_ ?_ ?_);(rfl);(rfl);(rfl);(rfl);(kernel_rfl)));refine cg.mono ?_;rintro _ ax ⟨⟨y,rfl,ch⟩,aq⟩;clear cg J;obtain⟨bD,bj⟩:∃W:Zw,W=ax.alloc (Obj.cells #[Zz,Zz,Zz,Zi 0,.string ⟨#[]⟩,.string ⟨#[]⟩,Zz,Zi 0,.string ⟨#[]⟩,Zz,Zz,Zz,Zz] 36):=⟨_,rfl⟩
 obtain⟨g1,bE⟩:∃g:Nat,g=ax.heap.size:=⟨_,rfl⟩
 have bF:bD.heap[g1]?=some (.cells #[Zz,Zz,Zz,Zi 0,.string ⟨#[]⟩,.string ⟨#[]⟩,Zz,Zi 0,.string ⟨#[]⟩,Zz,Zz,Zz,Zz] 36):=by rw[bj,bE];exact Jm _ _
 have ci:bD.there g1 0 (#[.slice y.pd y.nd y.cd,.slice y.pm y.nm y.cm,.slice y.pf y.nf y.cf,Zi y.M.A,.string y.M.O,.string y.M.N,.slice y.M.pq y.M.nq y.M.cq,Zi y.M.T.K,.string y.M.T.S,.slice y.M.T.pn y.M.T.nn y.M.T.cn,.slice y.M.T.pe y.M.T.ne y.M.T.ce,.slice y.M.T.pp y.M.T.np y.M.T.cp,.slice y.M.pb y.M.nb y.M.cb]:Array Value).size:=zf6 bF _ rfl;obtain⟨s1,s2,cW,bG⟩:=zg8 (cs:=[.slice y.pd y.nd y.cd,.slice y.pm y.nm y.cm,.slice y.pf y.nf y.cf,Zi y.M.A,.string y.M.O,.string y.M.N,.slice y.M.pq y.M.nq y.M.cq,Zi y.M.T.K,.string y.M.T.S,.slice y.M.T.pn y.M.T.nn y.M.T.cn,.slice y.M.T.pe y.M.T.ne y.M.T.ce,.slice y.M.T.pp y.M.T.np y.M.T.cp,.slice y.M.pb y.M.nb y.M.cb]) Zk bF;have bH:=bG ax (by omega) (by rw[bj];exact sal1 _ _);have bI:=J3 s1;have az:=J3 (bon aw (bon aq bH));have bJ:=J3 (ch.below bH);clear s1 s2 cW bG aq bH ch bF;go_upto_region 4 with((try rw[<-bj,<-bE]);((with_reducible refine wpList_store_mid ?_ 36 (.tmp 3) (.tmp 15) ?_ g1 0 #[.slice y.pd y.nd y.cd,.slice y.pm y.nm y.cm,.slice y.pf y.nf y.cf,Zi y.M.A,.string y.M.O,.string y.M.N,.slice y.M.pq y.M.nq y.M.cq,Zi y.M.T.K,.string y.M.T.S,.slice y.M.T.pn y.M.T.nn y.M.T.cn,.slice y.M.T.pe y.M.T.ne y.M.T.ce,.slice y.M.T.pp y.M.T.np y.M.T.cp,.slice y.M.pb y.M.nb y.M.cb] ?_ ?_ ci ?_ ?_ ?_);(rfl);(rfl);(rfl);(rfl);(kernel_rfl);(exact all_oneCell_toArray (J9 rfl (J9 rfl (J9 rfl (J9 rfl (J9 rfl (J9 rfl (J9 rfl (J9 rfl (J9 rfl (J9 rfl (J9 rfl (J9 rfl (J9 rfl zhm))))))))))))));(rw[show(#[.slice y.pd y.nd y.cd,.slice y.pm y.nm y.cm,.slice y.pf y.nf y.cf,Zi y.M.A,.string y.M.O,.string y.M.N,.slice y.M.pq y.M.nq y.M.cq,Zi y.M.T.K,.string y.M.T.S,.slice y.M.T.pn y.M.T.nn y.M.T.cn,.slice y.M.T.pe y.M.T.ne y.M.T.ce,.slice y.M.T.pp y.M.T.np y.M.T.cp,.slice y.M.pb y.M.nb y.M.cb]:Array Value).toList=[.slice y.pd y.nd y.cd,.slice y.pm y.nm y.cm,.slice y.pf y.nf y.cf,Zi y.M.A,.string y.M.O,.string y.M.N,.slice y.M.pq y.M.nq y.M.cq,Zi y.M.T.K,.string y.M.T.S,.slice y.M.T.pn y.M.T.nn y.M.T.cn,.slice y.M.T.pe y.M.T.ne y.M.T.ce,.slice y.M.T.pp y.M.T.np y.M.T.cp,.slice y.M.pb y.M.nb y.M.cb]from rfl]);(generalize bD.setCells g1 0 [.slice y.pd y.nd y.cd,.slice y.pm y.nm y.cm,.slice y.pf y.nf y.cf,Zi y.M.A,.string y.M.O,.string y.M.N,.slice y.M.pq y.M.nq y.M.cq,Zi y.M.T.K,.string y.M.T.S,.slice y.M.T.pn y.M.T.nn y.M.T.cn,.slice y.M.T.pe y.M.T.ne y.M.T.ce,.slice y.M.T.pp y.M.T.np y.M.T.cp,.slice y.M.pb y.M.nb y.M.cb]=W5 at bI az bJ ⊢);(clear bj ci bE)))
 have bK:ZH (∀V,ZB W5 V->PrIs V E D d m y p):=fun V h=>bJ.below h
 have bL:ZH (∀V,ZB W5 V->V.rangeAt g1 0 [.slice y.pd y.nd y.cd,.slice y.pm y.nm y.cm,.slice y.pf y.nf y.cf,Zi y.M.A,.string y.M.O,.string y.M.N,.slice y.M.pq y.M.nq y.M.cq,Zi y.M.T.K,.string y.M.T.S,.slice y.M.T.pn y.M.T.nn y.M.T.cn,.slice y.M.T.pe y.M.T.ne y.M.T.ce,.slice y.M.T.pp y.M.T.np y.M.T.cp,.slice y.M.pb y.M.nb y.M.cb]):=fun V h j v t=>by rw[Y0 (kp h (J0 bI)),X3];simpa using t
 have ah:ZH (∀V,ZB W5 V->ZB W0 V):=fun V h=>bon az h
 clear bI bJ aw;obtain⟨r,bM⟩:=Ze (zb9 E D d m p)
 have cj:ZH (ZC 7 #[P13.val ⟨pd,nd,cd,pm,nm,cm,pf,nf,cf,⟨A,O,N,pq,nq,cq,⟨K,S,pn,pe,pp,nn,cn,ne,ce,np,cp⟩,pb,nb,cb⟩⟩] W5 (.bool r)):=by rw[bM];exact zjt E D d m ⟨pd,nd,cd,pm,nm,cm,pf,nf,cf,⟨A,O,N,pq,nq,cq,⟨K,S,pn,pe,pp,nn,cn,ne,ce,np,cp⟩,pb,nb,cb⟩⟩ p W5 (ay _ az) bi.2.1
 have aA:=J3 bM;have J:=ag _ az;clear bM;go_wp2_with (((with_reducible refine wpList_load_mid ?_ 36 (.tmp 1) ?_ g0 0 ?_ _ _ (J) Tryz.underlying36 ?_ ?_ ?_);(rfl);(rfl);(rfl);(rfl);(kernel_rfl)));refine cj.mono ?_;rintro _ cX ⟨rfl,ck⟩;have aB:=J3 ck;clear ck cj J;go_upto_if 18 with fail
 go_cut [5] (fun o wx=>∃(ai:Value) (I:Zw),ai=o/\I=wx/\ZH (Lst I ai r (prS E D d m p))/\ZH (ZB W5 I))
 case first=>
  cases r with
  | true=>
   have aC:=J3 (programmed_any E D d m ⟨pd,nd,cd,pm,nm,cm,pf,nf,cf,⟨A,O,N,pq,nq,cq,⟨K,S,pn,pe,pp,nn,cn,ne,ce,np,cp⟩,pb,nb,cb⟩⟩ p cX (ay _ (ah _ aB)) aA.symm ac);have J:=ag _ (ah _ aB);go_wp2_with (((with_reducible refine wpList_load_mid ?_ 36 (.tmp 1) ?_ g0 0 ?_ _ _ (J) Tryz.underlying36 ?_ ?_ ?_);(rfl);(rfl);(rfl);(rfl);(kernel_rfl)));refine aC.mono ?_;rintro _ cY ⟨⟨cZ,rfl,aj⟩,aD⟩;have bN:=J3 (Qb aj);obtain⟨pu,c0,rfl,_⟩:=Jh aj;have bO:=J3 (bon aB aD);clear aj aD aC J;go_wp2_with fail;go_meet
   case rel=>exact⟨_,_,rfl,rfl,⟨⟨_,_,_,rfl⟩,fun _=>J0 bN⟩,bO⟩
  | false=>
   go_wp2_with fail;go_meet
   case rel=>exact⟨_,_,rfl,rfl,⟨⟨_,_,_,rfl⟩,fun h=>nomatch h⟩,aB⟩
 case rest=>
 obtain⟨ai,I,rfl,rfl,aE,Z⟩:=hcut;clear aB;obtain⟨X,Y,ak⟩:=ans_tup (zhs E D d m p);have al:=J3 (progAns_is p _ ak);have aF:ZH (ZC 9 #[y.val] I (.tuple #[.string X,Zi Y])):=by
  have h:=ae _ (ah _ Z);rw[<-ak];exact Program_any E D d m y p I (bK _ Z) bi.1 (bw.below h ap) (Yh ap h.size)
 clear ak;have aG:=bL _ Z;go_wp2_with (((with_reducible refine wpList_load_mid ?_ 36 (.tmp 3) ?_ g1 0 ?_ _ _ (aG) Tryz.underlying36 ?_ ?_ ?_);(rfl);(rfl);(rfl);(rfl);(kernel_rfl)));refine aF.mono ?_;rintro _ c1 ⟨rfl,am⟩;have aH:=J3 (bon Z am);have aI:=J3 (aE.below am);clear am aF aG aE Z;go_wp2_with fail;refine(fits_any r X Y _ (prS E D d m p) _ (fun e=>⟨al.1 (aA.symm.trans e),aI.2 e,by have:=J0 ac;have:=prS_le p;omega,fun s bP=>by have:=J0 ac;have:=prS_sh (aA.symm.trans e) bP;omega⟩) (fun e=>al.2 (aA.symm.trans e))).mono ?_;rintro _ cl ⟨rfl,aJ⟩;have af:=J3 (bon aH aJ);clear aJ aI aH al;have co:=J3 (kprogram_any E D d m ⟨pd,nd,cd,pm,nm,cm,pf,nf,cf,⟨A,O,N,pq,nq,cq,⟨K,S,pn,pe,pp,nn,cn,ne,ce,np,cp⟩,pb,nb,cb⟩⟩ y p cl (ay _ (ah _ af)) (bK _ af) bi.2.2);have J:=ag _ (ah _ af);have aG:=bL _ af;go_wp2_with (first
  | ((with_reducible refine load_midg ?_ 36 (.tmp 1) ?_ g0 0 ?_ _ _ (J) Tryz.underlying36 ?_ ?_ ?_);(rfl);(rfl);(rfl);(rfl);(kernel_rfl))
  | ((with_reducible refine load_midg ?_ 36 (.tmp 3) ?_ g1 0 ?_ _ _ (aG) Tryz.underlying36 ?_ ?_ ?_);(rfl);(rfl);(rfl);(rfl);(kernel_rfl)))
 refine co.mono ?_;rintro _ de ⟨rfl,cr⟩;have cu:=J3 (J0 ah _ (bon af cr));clear cr co J aG af ah bK bL az ay bi aA;go_upto_region 11 with fail
 obtain⟨L,cv⟩:∃L:List (Co E D d m),L=p.2.1++p.2.2.1++[p.2.2.2]:=⟨_,rfl⟩
 obtain⟨nl,bQ⟩:∃n:Nat,n=L.length:=⟨_,rfl⟩
 have bk:=J3 cv;have bl:=J3 bQ;clear cv bQ
 go_cut [8] (fun o wx=>∃(q:Zo) (bm:Nat) (I:Zw),o=.slice q nl bm/\I=wx/\ZH (OC w E D d m W0.heap.size I (.slice q nl bm) L)/\ZH (ZB W0 I))
 case first=>
  obtain⟨B,ar,cw,sB,bn,aK⟩:=Zx W0
  have bR:∀W,B W->_:=fun W h=>J0 bA W (ar W h)
  have cx:∀W,B W->W.rangeAt g0 3 [Zi A,.string O,.string N,.slice pq nq cq,Zi K,.string S,.slice pn nn cn,.slice pe ne ce,.slice pp np cp,.slice pb nb cb]:=fun W h=>by
   have c2:=ag W (ar W h);intro j v t;have an:=c2 (3+j) v (by rw[show 3+j=j+3 by omega];exact t);rwa[X3]at an
  have bS:p.2.1.length+p.2.2.1.length<=1000000:=by
   have hz:=J0 ac;unfold szPr at hz;have an:p.2.1.length<=zhr E D d m p.2.1:=zcp _ (fun x=>by unfold zei;omega) _;have cy:p.2.2.1.length<=zhr E D d m p.2.2.1:=zcp _ (fun x=>by unfold zei;omega) _;omega
  have cz:p.2.1.length+p.2.2.1.length+1<=1000000:=by
   have hz:=J0 ac;unfold szPr at hz;have an:p.2.1.length<=zhr E D d m p.2.1:=zcp _ (fun x=>by unfold zei;omega) _;have cy:p.2.2.1.length<=zhr E D d m p.2.2.1:=zcp _ (fun x=>by unfold zei;omega) _;omega
  refine JL (n:=81) Zk Zk Zk rfl B (VP (vL11 g0 A K O N S pm pf pq pn pe pp pb nm cm nf cf nq cq nn cn ne ce np cp nb cb)) (XK w E D d m W0.heap.size p [Zi A,.string O,.string N,.slice pq nq cq,Zi K,.string S,.slice pn nn cn,.slice pe ne ce,.slice pp np cp,.slice pb nb cb]) (cw _ (Jb cu)) (XK.init _ _ _ _ _ _ _ _ _) ?each ?fin
  case each=>
   refine⟨?_,?_,?_,?_,?_,?_,?_,?_,?_,?_,?_,?_,trivial⟩
   ·exact KG.first sB aK rfl rfl rfl Zk Zk Zk Zk
   ·exact Qt (by decide) (fun U W aa ab dep=>⟨J1 rfl,op_fP 1 rfl rfl (show U.eval (.tmp 1)=Value.pointer (Zs g0 0)from aa 1 Zk) ⟨_,rfl,rfl,rfl⟩⟩)
   ·exact Qt (by decide) (fun U W aa ab dep=>⟨J1 rfl,op_loadCs rfl (dep 1 39 _ Zk Zk rfl) (bR W ab).2.1 ⟨_,rfl,rfl,rfl⟩⟩)
   ·exact KG.app3 bn aK rfl rfl rfl rfl Zk Zk Zk Zk (by rw[<-J0 b5];rfl) Zk Zk Zk (fun W h=>row_src b2 (ae W (ar W h))) bS
   ·exact Qt (by decide) (fun U W aa ab dep=>⟨J1 rfl,op_fP 2 rfl rfl (show U.eval (.tmp 1)=Value.pointer (Zs g0 0)from aa 1 Zk) ⟨_,rfl,rfl,rfl⟩⟩)
   ·exact Qt (by decide) (fun U W aa ab dep=>⟨J1 rfl,op_loadCs rfl (dep 4 42 _ Zk Zk rfl) (bR W ab).2.2.1 ⟨_,rfl,rfl,rfl⟩⟩)
   ·exact KG.app6 bn aK rfl rfl rfl rfl Zk Zk Zk Zk (by rw[<-J0 b6];rfl) Zk Zk (fun W h=>row_src b3 (ae W (ar W h))) bS
   ·exact Qt (by decide) (fun U W aa ab dep=>⟨J1 rfl,op_fP 3 rfl rfl (show U.eval (.tmp 1)=Value.pointer (Zs g0 0)from aa 1 Zk) ⟨_,rfl,rfl,rfl⟩⟩)
   ·exact Qt (by decide) (fun U W aa ab dep=>⟨J1 rfl,wp_load_mid 34 _ rfl g0 3 (dep 7 45 _ Zk Zk rfl) _ _ (cx W ab) Tryz.underlying34 rfl Zk ⟨_,rfl,rfl,rfl⟩⟩)
   ·exact KG.lay (y:=⟨A,O,N,pq,nq,cq,⟨K,S,pn,pe,pp,nn,cn,ne,ce,np,cp⟩,pb,nb,cb⟩) sB rfl rfl rfl rfl (fun U dep=>(dep 8 46 _ Zk Zk rfl)) Zk Zk
   ·exact KG.app10 (y:=⟨A,O,N,pq,nq,cq,⟨K,S,pn,pe,pp,nn,cn,ne,ce,np,cp⟩,pb,nb,cb⟩) bn aK rfl rfl rfl rfl Zk Zk Zk Zk Zk rfl b4 cz
   ·exact KG.assign rfl rfl rfl Zk Zk
  case fin=>
   intro U W f hz c6 aa ab cA ao bT;have cB:f 10=some (U.tmps.getD 8 undef):=bT.2.2 _ (cA 11 8 Zk);have au:=bT.1 _ _ (show zck p.2.1 p.2.2.1 p.2.2.2 f=some (U.tmps.getD 8 undef,p.2.1++p.2.2.1++[p.2.2.2]) by unfold zck;rw[cB]);have c7:=J3 (ar W ab);rw[<-J0 bk]at au;rw[JZ hz rfl c6 aa];clear cA ao bT aa sB bn aK ar cw bR cx ab cB bS cz;generalize cC:U.tmps.getD 8 undef=v8 at au;obtain⟨q,bm,rfl,_⟩:=au.cells fun _ _ _=>rfl
   simp only[List.foldl,Option.getD];rw[cC];clear cC;rw[<-J0 bl]at au ⊢;have bo:=J3 au;clear au;go_wp2_with fail;go_meet
   case rel=>exact⟨_,_,_,rfl,rfl,bo,c7⟩
 case rest=>
 obtain⟨q,bm,bp,rfl,rfl,bo,bU⟩:=hcut;have bV:ZH (∀k,k<nl->∃(g o:Nat) (u:C10) (c:Co E D d m),q=some ⟨g,o,none⟩/\CoO E D d m c/\zei E D d m c<=20000/\∀V,ZB bp V->C10At V g (o+k*10) u/\CoIs V E D d m u c):=fun k bW=>by
  rw[J0 bl]at bW;obtain⟨df,_,e,hp⟩:=bo.cells (W':=bp) fun _ _ _=>rfl
  injection e with c8 dg dh
  obtain⟨g,_,c9,⟨u,rfl,hu⟩,ad⟩:=hp k L[k] (by simp);have hm:L[k]∈p.2.1++p.2.2.1++[p.2.2.2]:=by rw[<-J0 bk];exact Ys bW
  have hz:=J0 ac;unfold szPr at hz;obtain⟨_,_,c',da,db⟩:=J0 bg;have an:CoO E D d m L[k]/\zei E D d m L[k]<=20000:=by
   rcases YZ.1 hm with h|h
   ·rcases YZ.1 h with h|h
    ·exact⟨c' _ h,by have:=zhc h;omega⟩
    ·exact⟨da _ h,by have:=zhc h;omega⟩
   ·obtain h:=Xg.1 h;rw[h];exact⟨db,by omega⟩
  refine⟨g,0,u,L[k],c8.trans c9,an.1,an.2,fun V ao=>⟨C10At.below ⟨ad 0 _ rfl,ad 1 _ rfl,ad 2 _ rfl,ad 3 _ rfl,⟨ad 4 _ rfl,ad 5 _ rfl,ad 6 _ rfl,ad 7 _ rfl,ad 8 _ rfl⟩,ad 9 _ rfl⟩ ao,hu.below (ae _ (bon bU ao))⟩⟩
 have bQ:nl<=1000000:=by
  have hz:=J0 ac;unfold szPr at hz;have an:p.2.1.length<=zhr E D d m p.2.1:=zcp _ (fun x=>by unfold zei;omega) _;have cy:p.2.2.1.length<=zhr E D d m p.2.2.1:=zcp _ (fun x=>by unfold zei;omega) _;rw[J0 bl,J0 bk];simp only[Y9,Yk,X8];omega
 clear bo bk bl bg bA ag b2 b3 b4 b5 b6 bv b7 H0 cu ac;go_wp2_with fail
 go_loopg [4,5,6,7,9] nl (fun gk bG di dj dk i wr=>∃(k:Nat),i=Zi k/\k+gk=nl/\ZH (ZB bp wr))
 case atStart=>exact⟨0,rfl,by omega,Zr⟩
 case round=>
  obtain⟨k,rfl,bW,bq⟩:=hrel;by_cases dc:k<nl
  ·have dd:(k:Int)<(nl:Int):=by omega
   obtain⟨g,o,⟨aL,aM,aN,aO,aP,aQ,⟨aR,aS,aT,aU,aV,aW,aX,aY,aZ,a1,a2⟩,a3,a4,a5⟩,c,rfl,cD,bX,ao⟩:=bV k dc;have cE:=J3 (co_of (Yh bX (by decide)) cD);have bY:=J3 bX;have av:=J3 ao;clear cD bX ao bV;obtain⟨br,bZ⟩:=Ze (JD E D d m c)
   have cF:ZH (ZC 12 #[C10.val ⟨aL,aM,aN,aO,aP,aQ,⟨aR,aS,aT,aU,aV,aW,aX,aY,aZ,a1,a2⟩,a3,a4,a5⟩] wr (.bool br)):=by rw[bZ];exact zd7 E D d m ⟨aL,aM,aN,aO,aP,aQ,⟨aR,aS,aT,aU,aV,aW,aX,aY,aZ,a1,a2⟩,a3,a4,a5⟩ c wr (av _ bq).2 cE.2.1
   have bt:=J3 bZ;clear bZ;obtain⟨⟨a6,a7,a8,a9,⟨a',ba,bb,bc,be⟩,bf⟩,_⟩:=av _ bq;go_wp2_with fail;refine cF.mono ?_;rintro _ w1 ⟨rfl,cG⟩;have bu:=J3 (bon bq cG);clear cG cF a6 a7 a8 a9 a' ba bb bc be bf;go_upto_if 60 with fail
   go_cut [5] (fun o wx=>∃(ai:Value) (I:Zw),ai=o/\I=wx/\ZH (Lst I ai br (coS E D d m c))/\ZH (ZB bp I))
   case first=>
    cases br with
    | true=>
     have aC:=J3 (zim E D d m ⟨aL,aM,aN,aO,aP,aQ,⟨aR,aS,aT,aU,aV,aW,aX,aY,aZ,a1,a2⟩,a3,a4,a5⟩ c w1 (av _ bu).2 bt.symm bY);obtain⟨⟨a6,a7,a8,a9,⟨a',ba,bb,bc,be⟩,bf⟩,_⟩:=av _ bu;go_wp2_with fail;refine aC.mono ?_;rintro _ cY ⟨⟨cZ,rfl,aj⟩,aD⟩;have bN:=J3 (Qb aj);obtain⟨pu,c0,rfl,_⟩:=Jh aj;have bO:=J3 (bon bu aD);clear aj aD aC a6 a7 a8 a9 a' ba bb bc be bf;go_wp2_with fail;go_meet
     case rel=>exact⟨_,_,rfl,rfl,⟨⟨_,_,_,rfl⟩,fun _=>J0 bN⟩,bO⟩
    | false=>
     go_wp2_with fail;go_meet
     case rel=>exact⟨_,_,rfl,rfl,⟨⟨_,_,_,rfl⟩,fun h=>nomatch h⟩,bu⟩
   case rest=>
    obtain⟨ai,I,rfl,rfl,aE,Z⟩:=hcut;obtain⟨cH,cI,ak⟩:=ans_tup (zhg E D d m c);have al:=J3 (codeAns_is c _ ak);have aF:ZH (ZC 14 #[C10.val ⟨aL,aM,aN,aO,aP,aQ,⟨aR,aS,aT,aU,aV,aW,aX,aY,aZ,a1,a2⟩,a3,a4,a5⟩] I (.tuple #[.string cH,Zi cI])):=by
     have h:=ae _ (bon bU Z);rw[<-ak];exact Code_any E D d m ⟨aL,aM,aN,aO,aP,aQ,⟨aR,aS,aT,aU,aV,aW,aX,aY,aZ,a1,a2⟩,a3,a4,a5⟩ c I (av _ Z).2 cE.1 (bw.below h ap) (Yh ap h.size)
    clear ak;obtain⟨⟨a6,a7,a8,a9,⟨a',ba,bb,bc,be⟩,bf⟩,_⟩:=av _ Z;go_wp2_with fail;refine aF.mono ?_;rintro _ c1 ⟨rfl,am⟩;have aH:=J3 (bon Z am);have aI:=J3 (aE.below am);clear am aF aE Z a6 a7 a8 a9 a' ba bb bc be bf;go_wp2_with fail;refine(fits_any br cH cI _ (coS E D d m c) _ (fun e=>⟨al.1 (bt.symm.trans e),aI.2 e,by have:=J0 bY;have:=coS_le c;omega,fun s bP=>by have:=J0 bY;have:=coS_sh (bt.symm.trans e) bP;omega⟩) (fun e=>al.2 (bt.symm.trans e))).mono ?_;rintro _ cl ⟨rfl,aJ⟩;have af:=J3 (bon aH aJ);clear aJ aI aH al;go_wp2_with fail;go_roundg (nl-(k+1))
    case measure=>omega
    case rel=>exact⟨k+1,by go_num,by omega,af⟩
  ·obtain rfl:k=nl:=by omega
   have dd:¬(k:Int)<(k:Int):=by omega
   clear bV;go_wp2_with fail;refine(b9 _ (bon bU bq)).mono ?_;rintro _ ax ⟨rfl,aq⟩;go_wp2_with fail;go_ret;exact⟨rfl,aq⟩
open Go Go.ChangeShapes Go.WideShapes Go.ChangeAt Go.RowKit
theorem laidOut:laidOutB Tryz.prog=true:=by kernel_rfl
theorem reach_one {H:Type} {t:TypeId} {d:DataW H} (h:(DataW.weightsEach Tryz.prog ([t]++[]) ([d]++[])).all (·<=reachBytes)=true):Reached t d:=by
 rw[Yn]at h;exact fun n c=>of_decide_eq_true (h n (by simp only[YD,Xc,DataW.weightsEach,YZ];exact Or.inl c))
theorem zg1 (os:Os) (started:os.Started) (H:Type) (enc:TypeId×Value->H) :
  ReturnsInHanded {} Tryz.checked os 3 .any (fun w args=>(Rows.syntaxProgramsSpec.pre enc Tryz.prog Tryz.f3 [] false w args/\laidMetH Tryz.prog laidL w)/\sizedMet enc Tryz.prog Tryz.f3 (OpenSpec.ofChange Rows.syntaxProgramsSpec) false w args)
   (Rows.syntaxProgramsSpec.post enc Tryz.prog Tryz.f3 false true false false):=by
 refine returnsInHanded_of_change_and (C:=Tryz.checked) (X:=fun w _=>laidMetH Tryz.prog laidL w) (fun _ _ _ M h=>h.of_heap M) own started Zk Tryz.func3
  (ChangeSpec.witness_shaped (enc:=enc) (C:=Tryz.checked) (os:=os) (X:=fun w _=>laidMetH Tryz.prog laidL w) false (World.doorLaid Tryz.prog 4000 os) #[.agg #[Zz,Zz,Zz,Zi 0,.string ⟨#[]⟩,.string ⟨#[]⟩,Zz,Zi 0,.string ⟨#[]⟩,Zz,Zz,Zz,Zz]] 8 rfl (World.shaped_of_RefB Zk Zk) Zk Zk Zk (door_met os _)) ?_
 intro W base args U gs before V u _ G Y _;have I:∀(j:Nat) t v,Tryz.f3.params[j]?=some t->args[j]?=some v->Value.okWide Tryz.prog W .any base t v:=V
 have c:=u;obtain⟨p,q,Z,hV,rfl,ad,ae⟩:=u;have J:DataW.TrodAll enc Tryz.prog W 0 (fun _=>true) true Tryz.f3.params.toList args.toList U p:=Z;rw[Tryz.params3]at J I G;obtain⟨v0,d0,rfl,rfl,r⟩:=trodAll_one J;obtain⟨rfl,rfl⟩:=trodVars_none hV;obtain⟨af,rfl,_⟩:=okWide_struct Tryz.underlying36 (I 0 36 v0 rfl rfl);obtain⟨ht,h5⟩:=of_laid Y;have w0:=reach_one G;simp only[X7]at c;have aa:∀x∈p,x.block<W.heap.size:=fun x hx=>by simpa using c.lt x hx
 obtain⟨g,x,pr,e0,r1,r2⟩:=open_prog r w0;have s:Rows.syntaxProgramsSpec.fn H ([d0]++[])={ results:=[.lit (.bool true)],args:=[d0] }:=rfl;rw[e0]at r c ⊢;refine(zi2 (g+1) g g g x pr W r1 r2 ht h5).mono fun e W' ⟨ab,L⟩=>?_
 subst ab;have ac:=Below.trod laidOut Zk (of_decide_eq_true Zk) r L aa;refine⟨_,rfl,_,_,_,[],p,[],c,?_,?_,?_,L.frame _,fun h=>by cases h⟩
 ·rw[s];exact trodAll_mk1 (shut_bool Tryz.underlying4 true)
 ·rw[s];exact trodAll_mk1 ac
 ·rw[s];rfl
theorem ziw:Rows.SyntaxProgramsSaid:=
 OpenClaim.holds_of_wide 3 Tryz.f3 rfl rfl rfl rfl rfl rfl rfl ⟨rfl,rfl,rfl,rfl,rfl⟩ rfl rfl rfl rfl rfl Zk Tryz.func3 Zk
  (of_decide_eq_true Zk) (by unfold Func.isWrapper;rw[Y7 (of_decide_eq_false Zk)];exact⟨rfl,rfl⟩)
  (fun os started H enc _=>zg1 os started H enc)
theorem syntaxPrograms_holds:Rows.SyntaxProgramsCardSaid:=
 Claim7.holds_tied_plain_at .later [] [.data,.data,.data] true Rows.syntaxProgramsCard.stood.harness false
  ziw (fun _ h=>by cases h) Zk (fun _ h=>by cases h) syntaxPrograms_row_tie rfl ⟨rfl,rfl⟩ Zk rfl
  (fun f fn g r=>by
   obtain rfl:f=3:=Y1 ((show Tryz.prog.funcNamed "coil/coillaw2.SyntaxPrograms" = some 3 by kernel_rfl).symm.trans g) |>.symm
   obtain rfl:fn=Tryz.f3:=(Y1 (Tryz.func3.symm.trans r)).symm;exact⟨by kernel_rfl,fun j t c=>by
    rw[Tryz.params3]at c;rcases j with _|j
    ·have s:t=36:=by simpa using c.symm
     subst s;exact(show Tryz.prog.wantsStandIn 36=false by kernel_rfl)
    ·simp at c⟩)
  Zk
#print axioms syntaxPrograms_holds
end Go.Proofs.YtdcbglnhhbmpgaaGreatDoor
