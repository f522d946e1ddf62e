import Derived.Test.YtdcbglnhhbmpgaaGreatDoorQOwnSG
import Derived.Deep.MidRow
import Derived.Test.YtdcbglnhhbmpgaaGreatDoorQCdF
set_option maxHeartbeats 2000000
set_option maxRecDepth 100000
namespace Go.Proofs.YtdcbglnhhbmpgaaGreatDoor
open Go Go.RowKit Lx
def OG {α:Type} (T:TypeId) (n:Nat) (Q:Zw->List Value->α->Prop) (B:Nat) (W:Zw) (v:Value) (xs:List α):Prop:=
 ∃es:List (List Value),es.length=xs.length/\(∀e∈es,e.length=n)/\W.ownsRow B T n v xs.length es.flatten/\∀(j:Nat) (u:List Value) (x:α),es[j]?=some u->xs[j]?=some x->Fr B v.ownBlock W (fun W'=>Q W' u x)
theorem flat_at {n:Nat}:∀(es:List (List Value)) (j i:Nat) (u:List Value) (c:Value),(∀e∈es,e.length=n)->es[j]?=some u->u[i]?=some c->es.flatten[j*n+i]?=some c
 | [],j,i,u,c,_,h,_=>by simp at h
 | x::r,0,i,u,c,s,h,g=>by
  simp at h;subst h;have G:=(YI.1 g).1;rw[List.flatten_cons,show 0*n+i=i by omega,YC G];exact g
 | x::r,j+1,i,u,c,s,h,g=>by
  have I:=flat_at r j i u c (fun e he=>s e (by simp[he])) (by simpa using h) g;have t:x.length=n:=s x (by simp);rw[List.flatten_cons,Yv (by rw[t,Nat.succ_mul];omega),show(j+1)*n+i-x.length=j*n+i by rw[t,Nat.succ_mul];omega];exact I
section
variable {α:Type} {T:TypeId} {n:Nat} {Q:Zw->List Value->α->Prop} {B:Nat} {W:Zw} {v:Value} {xs:List α}
theorem OG.nil (B:Nat) (W:Zw):OG T n Q B W (Zz) []:=⟨[],rfl,by simp,YU _ _ _ _,fun j u t h=>by simp at h⟩
theorem OG.lt (h:OG T n Q B W v xs):∀k,v.ownBlock=some k->B<=k/\k<W.heap.size:=by
 obtain⟨_,_,_,c,_⟩:=h;exact c.lt
theorem OG.slice (h:OG T n Q B W v xs):∃p c,v=.slice p xs.length c:=by
 obtain⟨_,_,_,g,_⟩:=h;obtain⟨p,c,e,_⟩:=Jh g;exact⟨p,c,e⟩
theorem OG.cells (h:OG T n Q B W v xs) {W':Zw} (s:∀j,B<=j->j<W.heap.size->W'.heap[j]?=W.heap[j]?):∃p c,v=.slice p xs.length c/\∀j x,xs[j]?=some x->∃(g:Nat) (u:List Value),p=some ⟨g,0,none⟩/\Q W' u x/\∀i c,u[i]?=some c->W'.cell? ⟨g,0+j*n+i,none⟩=some c:=by
 obtain⟨es,hl,I,r,he⟩:=h;obtain⟨p,c,rfl,t⟩:=Jh r;refine⟨p,c,rfl,fun j x G=>?_⟩;have hj:j<xs.length:=(YI.1 G).1;have hu:es[j]?=some es[j]:=by simp
 have J:=he j _ x hu G W' fun i L M _=>s i L M
 rcases r.2 with⟨_,h0⟩|⟨g,cap,cur,U,V,Y,_⟩
 ·omega
 ·injection U with Z _ _
  subst Z;have aa:=(Y8.1 Y).1;refine⟨g,es[j],rfl,J,fun i c t=>?_⟩;rw[zfn (s g V aa),X3];have:=r.cells (g:=g) rfl _ _ (flat_at es j i _ c I hu t);rwa[addr_add]at this
theorem OG.move {W':Zw} (h:OG T n Q B W v xs) (hs:W'.heap.size=W.heap.size) (c:∀j,B<=j->W'.heap[j]?=W.heap[j]?):OG T n Q B W' v xs:=by
 obtain⟨es,I,J,s,he⟩:=h;refine⟨es,I,J,⟨s.1,?_⟩,fun j u t L M U V=>he j u t L M U fun i x h4 Y=>?_⟩
 ·rcases s.2 with Z|⟨g,cap,cur,e,G,hg,r⟩
  ·exact .inl Z
  ·exact .inr ⟨g,cap,cur,e,G,(c g G).trans hg,r⟩
 ·rw[V i x (by omega) Y,c i x]
theorem OG.append {J:TypeId} {z:Value} {V:Nat} {wr r:Zw} {x:α} {u:List Value} (ht:Tryz.prog.underlying J=some (.slice T)) (ae:(Tryz.prog.info? T).map (fun i=>(i.zero,i.size,i.bytes))=some (some z,n,V)) (hz:z.cells.size=n) (af:0<n) (ag:V<=1000) (h:OG T n Q B wr v xs) (hB:B<=wr.heap.size) (U:ZB wr r)
  (hu:∀W':Zw,(∀j,wr.heap.size<=j->j<r.heap.size->W'.heap[j]?=r.heap[j]?)->Q W' u x) (h1:∀c∈u,c.oneCell'=true) (ah:u.length=n) (hl:xs.length<=1000000) :
  ∃(g cap:Nat) (t:Zw),(Builtin.append_ #[J,J] J #[v,.slice (Zs r.heap.size 0) 1 1]).run Tryz.prog (r.alloc (.cells u.toArray T))=.ok (.slice (Zs g 0) (xs.length+1) cap) t /\
   OG T n Q B t (.slice (Zs g 0) (xs.length+1) cap) (xs++[x])/\r.heap.size<=t.heap.size/\(∀j,j<r.heap.size->some j≠v.ownBlock->t.heap[j]?=r.heap[j]?)/\Below B wr t:=by
 obtain⟨es,ab,ai,ho,he⟩:=h;obtain⟨i0,Y,aj,ak,al⟩:=Xx ae;have am:=U.size;have an:r.ownsRow B T n v xs.length es.flatten:=ho.kept (Je U) (by cases v.ownBlock <;> simp);obtain⟨g,cap,t,hr,ao,Z,ap,_⟩:=run_append_lies (P:=Tryz.prog) (r.alloc (.cells u.toArray T)) J J B T i0 z n V ht Y aj ak al hz af v xs.length _
  (an.alloc _) ⟨r.heap.size,0,none⟩ 1 1 u (by omega)
  (fun j x hx=>by rw[addr_add,Ya _ _ _ _ rfl,<-hx];simp) h1 (by omega) (by unfold maxLen;omega) (Yh (Nat.mul_le_mul (show xs.length+1<=1000001 by omega) ag) (by decide)) (by simp;omega) (r.heap.size+1) (by simp)
 have ac:∀k,v.ownBlock=some k->B<=k/\k<wr.heap.size:=ho.lt
 have av:r.heap.size+1<=t.heap.size:=by have:=Z.size;simpa using this
 have aa:∀j,j<r.heap.size->some j≠v.ownBlock->t.heap[j]?=r.heap[j]?:=fun j G L=>(Z.block j (by simp;omega) L).trans (((Yu r.heap.size r).alloc (Y5 _) _).block j G)
 have ad:(some g=v.ownBlock)∨∀g2,some g=some g2->r.heap.size<=g2:=by
  rcases ap with e|e
  ·exact .inl e.symm
  ·exact .inr fun g2 M=>by cases M;omega
 refine⟨g,cap,t,hr,⟨es++[u],by simp[ab],fun e he=>?_,by simpa using ao,fun j x s G I=>?_⟩,by omega,aa,?_⟩
 ·rcases YZ.1 he with h|h
  ·exact ai e h
  ·rw[Xg.1 h];exact ah
 ·show Fr B (some g) t _;rcases YW j xs.length with aq|ar
  ·rw[YC (by omega)]at G;rw[YC aq]at I;refine(he j x s G I).step (by omega) (fun i Y L=>?_) ?_
   ·rw[aa i (by omega) L];exact U.block i Y
   ·rcases ad with e|e
    ·exact .inl e
    ·exact .inr fun g2 M=>Yh am (e g2 M)
  ·rw[Yv (by omega)]at G;rw[Yv ar]at I;have ej:j-xs.length=0:=by
    rcases X1 (j-xs.length)with e|e
    ·exact e
    ·rw[X9 (by simp;omega)]at I;cases I
   rw[ej]at I;rw[ab,ej]at G;simp at G I;subst G I;intro W' au;refine hu W' fun i h2 h3=>?_
   have L:some i≠v.ownBlock:=fun e=>by have:=(ac i e.symm).2;omega
   rw[au i (by omega) (by omega) ?_,aa i h3 L];rcases ad with e|e
   ·rw[e];exact L
   ·intro M;have:=e i M.symm;omega
 ·refine((U.mono hB).alloc (by omega) _).grown Z (by simp;omega) fun k ek=>(ac k ek).1
end
theorem zhm:∀u∈([]:List Value),u.oneCell'=true:=fun _ h=>nomatch h
theorem J9 {v:Value} {l:List Value} (h:v.oneCell'=true) (t:∀u∈l,u.oneCell'=true):∀u∈v::l,u.oneCell'=true:=fun u hu=>by
 rcases Xj.1 hu with rfl|hu
 ·exact h
 ·exact t u hu
def setFrom (zs:Array Value):Nat->List Value->Array Value
 | _,[]=>zs
 | o,v::r=>setFrom (zs.setIfInBounds o v) (o+1) r
theorem zfo {b:Nat} {t:TypeId} {c:Nat×Nat}:∀(vs:List Value) (o:Nat) (W:Zw) (zs:Array Value),W.heap[b]?=some (.cells zs t c)->(W.setCells b o vs).heap[b]?=some (.cells (setFrom zs o vs) t c)/\(∀j,j≠b->(W.setCells b o vs).heap[j]?=W.heap[j]?)/\(W.setCells b o vs).heap.size=W.heap.size/\∀(w0:Zw),w0.heap.size<=b->ZB w0 W->ZB w0 (W.setCells b o vs)
 | [],o,W,zs,h=>⟨h,fun _ _=>rfl,rfl,fun _ _ h=>h⟩
 | v::r,o,W,zs,h=>by
  obtain⟨s,u,x,G⟩:=zfo r (o+1) (W.setCell ⟨b,o,none⟩ v) _ (zhk h v);exact⟨s,fun j g=>(u j g).trans (Ja g),x.trans (by simp),fun w0 hle I=>G w0 hle (I.setCell (p:=⟨b,o,none⟩) hle _)⟩
theorem zg8 {b:Nat} {t:TypeId} {c:Nat×Nat} {cs:List Value} {W:Zw} {zs:Array Value} (r:setFrom zs 0 cs=cs.toArray) (h:W.heap[b]?=some (.cells zs t c)):(W.setCells b 0 cs).heap[b]?=some (.cells cs.toArray t c)/\(∀j,j≠b->(W.setCells b 0 cs).heap[j]?=W.heap[j]?)/\(W.setCells b 0 cs).heap.size=W.heap.size/\∀(w0:Zw),w0.heap.size<=b->ZB w0 W->ZB w0 (W.setCells b 0 cs):=by
 have g:=zfo cs 0 W zs h;rw[r]at g;exact g
theorem zf6 {W:Zw} {b:Nat} {zs:Array Value} {t:TypeId} (h:W.heap[b]?=some (.cells zs t)) (n:Nat) (c:zs.size=n):W.there b 0 n:=fun j g=>⟨by rw[Y0 h,X3,Array.getElem?_eq_getElem (by omega)];rfl,YH h _⟩
theorem OG.round {α:Type} {T t:TypeId} {n:Nat} {Q:Zw->List Value->α->Prop} {z:Value} {M:Nat} {W0 W w1:Zw} {F:Zw->Prop} {nn bx i k:Nat} {zs:Array Value} {G:TypeId} {v:Value} {xs:List α} {u:List Value} (ht:Tryz.prog.underlying t=some (.slice T)) (ae:(Tryz.prog.info? T).map (fun i=>(i.zero,i.size,i.bytes))=some (some z,n,M)) (hz:z.cells.size=n) (af:0<n) (ag:M<=1000)
  (U:SI W0 F nn bx (.cells zs G) W) (I:zs[i]?=some v) (V:OG T n Q nn W v (xs.take k)) (ah:k<xs.length) (hl:xs.length<=1000000) (r:ZB W w1) (hu:∀W':Zw,(∀j,W.heap.size<=j->j<w1.heap.size->W'.heap[j]?=w1.heap[j]?)->Q W' u xs[k]) (h1:∀c∈u,c.oneCell'=true) (ai:u.length=n) :
  ZB W0 w1/\w1.cell? ⟨bx,i,none⟩=some v/\(w1.alloc (.cells u.toArray T)).cell? ⟨bx,i,none⟩=some v /\
   ∃(h cap:Nat) (g:Zw),(Builtin.append_ #[t,t] t #[v,.slice (Zs w1.heap.size 0) 1 1]).run Tryz.prog (w1.alloc (.cells u.toArray T))=.ok (.slice (Zs h 0) (k+1) cap) g /\
    ZB W0 g/\g.cell? ⟨bx,i,none⟩=some v/\g.frozen? ⟨bx,i,none⟩=false /\
    OG T n Q nn (g.setCell ⟨bx,i,none⟩ (.slice (Zs h 0) (k+1) cap)) (.slice (Zs h 0) (k+1) cap) (xs.take (k+1)) /\
    SI W0 F nn bx (.cells (zs.setIfInBounds i (.slice (Zs h 0) (k+1) cap)) G) (g.setCell ⟨bx,i,none⟩ (.slice (Zs h 0) (k+1) cap)):=by
 obtain⟨i3,⟨i1,i2,i6⟩,Y,i7⟩:=id U;have al:=r.size;have J:=(r.block _ (by omega)).trans i3;obtain⟨h,cap,g,Z,aa,am,ab,aj⟩:=V.append (x:=xs[k]) ht ae hz af ag i6 r hu h1 ai (by rw[YE];omega);rw[YE,Xz (by omega)]at Z aa;have ac:∀j,v.ownBlock=some j->nn<=j:=fun j s=>(V.lt j s).1
 have L:g.heap[bx]?=some (.cells zs G):=(ab _ (by omega) (fun s=>by have:=ac _ s.symm;omega)).trans J;have ad:=Y.trans (aj.mono (by omega));refine⟨zax Y r,by rw[Y0 J];exact I,?_,h,cap,g,Z,ad,by rw[Y0 L];exact I,YH L i,?_,U.step (zhk L _) (ad.setCell (p:=⟨bx,i,none⟩) (by show W0.heap.size<=bx;omega) _) (by simp;omega) fun j hj ak=>?_⟩
 ·rw[Y0 ((zc2 w1 _ _ (by omega)).trans J)];exact I
 ·rw[zbb ah];exact aa.move (by simp) fun j hj=>Ja (by omega)
 ·rw[Ja ak,ab j (by omega) (fun s=>by have:=ac _ s.symm;omega),r.block j (by omega)]
def XG (n0 bx bd:Nat) (zO:Obj) (C:List (Nat×(Zw->Value->Prop))) (mk:(Nat->Option Value)->Option Value) (f:Nat->Option Value) (W:Zw):Prop:=
 (∀c∈C,∀v,f c.1=some v->∃g h,(n0<=g/\h<=W.heap.size)/\(∀W':Zw,(∀j,g<=j->j<h->W'.heap[j]?=W.heap[j]?)->c.2 W' v)/\∀k,f bx=some (.pointer (Zs k 0))->k<g∨h<=k) /\
 (∀b,f bx=some b->∃k,b=.pointer (Zs k 0)/\(n0<=k/\k<W.heap.size)/\W.heap[k]?=some zO) /\
 (∀v,f bd=some v->mk f=some v)
def MkOk (C:List (Nat×(Zw->Value->Prop))) (mk:(Nat->Option Value)->Option Value):Prop:=(∀f i v,(∀c∈C,c.1≠i)->mk (JT f i v)=mk f)/\∀f v,mk f=some v->∀c∈C,f c.1≠none
section
variable {n0 bx bd:Nat} {zO:Obj} {C:List (Nat×(Zw->Value->Prop))} {mk:(Nat->Option Value)->Option Value} {f:Nat->Option Value} {W W':Zw} {i:Nat} {v:Value}
theorem XG.init (W:Zw):XG n0 bx bd zO C mk (fun _=>none) W:=⟨(fun _ _ _ h=>nomatch h),(fun _ h=>nomatch h),fun _ h=>nomatch h⟩
theorem XG.other (hm:MkOk C mk) (h:XG n0 bx bd zO C mk f W) (g:ZB W W') (u:∀c∈C,c.1≠i) (G:bx≠i) (hd:bd≠i):XG n0 bx bd zO C mk (JT f i v) W':=by
 obtain⟨L,M,U⟩:=h;refine⟨fun c I x e=>?_,fun b e=>?_,fun x e=>?_⟩
 ·rw[J7 f v (u c I)]at e;obtain⟨V,Y,⟨t,a2⟩,r,s⟩:=L c I x e;exact⟨V,Y,⟨t,Yh a2 g.size⟩,fun Z aa=>r Z fun j j1 J=>(aa j j1 J).trans (g.block j (Yz J a2)),fun k e=>s k (by rwa[J7 f v G]at e)⟩
 ·rw[J7 f v G]at e;obtain⟨k,e1,⟨t,a2⟩,a3⟩:=M b e;exact⟨k,e1,⟨t,Yz a2 g.size⟩,(g.block _ a2).trans a3⟩
 ·rw[J7 f v hd]at e;rw[hm.1 f i v u];exact U x e
theorem XG.call {F:Zw->Value->Prop} (hm:MkOk C mk) (g:(i,F)∈C) (hu:∀c∈C,c.1=i->c=(i,F)) (h:XG n0 bx bd zO C mk f W) (V:f i=none) (G:bx≠i) (hd:bd≠i) (t:ZB W W') (Y:n0<=W.heap.size) (Z:∀u:Zw,(∀j,W.heap.size<=j->j<W'.heap.size->u.heap[j]?=W'.heap[j]?)->F u v):XG n0 bx bd zO C mk (JT f i v) W':=by
 obtain⟨h1,L,h3⟩:=h;refine⟨fun c g x e=>?_,fun b e=>?_,fun x e=>?_⟩
 ·by_cases M:c.1=i
  ·obtain rfl:=hu c g M;rw[Jn]at e;obtain rfl:=Y1 e;refine⟨W.heap.size,W'.heap.size,⟨Y,Y5 _⟩,Z,fun k e=>?_⟩;rw[J7 f _ G]at e;obtain⟨k',I,a,_⟩:=L _ e;obtain rfl:k=k':=by simpa using I
   exact .inl a.2
  ·rw[J7 f v M]at e;obtain⟨lo,hh,⟨J,a2⟩,r,s⟩:=h1 c g x e;exact⟨lo,hh,⟨J,Yh a2 t.size⟩,fun u aa=>r u fun j j1 U=>(aa j j1 U).trans (t.block j (Yz U a2)),fun k e=>s k (by rwa[J7 f v G]at e)⟩
 ·rw[J7 f v G]at e;obtain⟨k,I,⟨J,a2⟩,a3⟩:=L b e;exact⟨k,I,⟨J,Yz a2 t.size⟩,(t.block _ a2).trans a3⟩
 ·rw[J7 f v hd]at e;exact absurd V (hm.2 f x (h3 x e) _ g)
theorem XG.box (hm:MkOk C mk) (h:XG n0 bx bd zO C mk f W) (g:∀c∈C,c.1≠bx) (hd:bd≠bx) (I:n0<=W.heap.size):XG n0 bx bd zO C mk (JT f bx (.pointer (Zs W.heap.size 0))) (W.alloc zO):=by
 obtain⟨J,h2,L⟩:=h;have t:ZB W (W.alloc zO):=sal1 _ _;refine⟨fun c u x e=>?_,fun b e=>?_,fun x e=>?_⟩
 ·rw[J7 f _ (g c u)]at e;obtain⟨M,U,⟨V,a2⟩,r,s⟩:=J c u x e;refine⟨M,U,⟨V,Yh a2 t.size⟩,fun Y Z=>r Y fun j j1 G=>(Z j j1 G).trans (t.block j (Yz G a2)),fun k e=>?_⟩;rw[Jn]at e;obtain rfl:W.heap.size=k:=by simpa using e
  exact .inr a2
 ·rw[Jn]at e;exact⟨_,(Y1 e).symm,⟨I,by simp⟩,Jm W zO⟩
 ·rw[J7 f _ hd]at e;rw[hm.1 f bx _ g];exact L x e
theorem XG.build (hm:MkOk C mk) (h:XG n0 bx bd zO C mk f W) (g:∀c∈C,c.1≠bd) (hd:bx≠bd) (e:mk f=some v):XG n0 bx bd zO C mk (JT f bd v) W:=by
 obtain⟨u,G,L⟩:=h;refine⟨fun c j x e=>?_,fun b e=>?_,fun x t=>?_⟩
 ·rw[J7 f _ (g c j)]at e;obtain⟨I,J,a,r,s⟩:=u c j x e;exact⟨I,J,a,r,fun k e=>s k (by rwa[J7 f v hd]at e)⟩
 ·rw[J7 f v hd]at e;exact G b e
 ·rw[Jn]at t;rw[hm.1 f bd _ g,e];exact t
theorem XG.done {wr:Zw} {zs:Array Value} {t:TypeId} {b:Value} {cs:List Value} (hw:wr.heap.size=n0) (hz:zO=.cells zs t) (h:XG n0 bx bd zO C mk f W) (x:ZB wr W) (g:f bx=some b) (G:setFrom zs 0 cs=cs.toArray) :
  ∃k,b=.pointer (Zs k 0)/\W.heap[k]?=some (.cells zs t)/\SI wr (fun W'=>∀c∈C,∀v,f c.1=some v->c.2 W' v) (W.setCells k 0 cs).heap.size k (.cells cs.toArray t) (W.setCells k 0 cs):=by
 obtain⟨I,J,V⟩:=h;obtain⟨k,rfl,⟨Y,a2⟩,a3⟩:=J b g;rw[hz]at a3;obtain⟨s1,s2,u,L⟩:=zfo cs 0 W zs a3;rw[G]at s1;refine⟨k,rfl,a3,s1,⟨by omega,by rw[u];exact a2,Y5 _⟩,L wr (by omega) x,fun W' M c U v e=>?_⟩;obtain⟨Z,hi,⟨b1,b2⟩,r,s⟩:=I c U v e;have d1:=s k g;refine r W' fun j j1 j2=>?_
 rw[M j (by omega) (by rw[u];omega) (by omega),s2 j (by omega)]
end
section
variable {n0 bx bd:Nat} {zO:Obj} {C:List (Nat×(Zw->Value->Prop))} {mk:(Nat->Option Value)->Option Value} {ops:Array Oper} {Q:Exit->Act->Zw->Prop} {a0:Act} {n:Nat} {B:Zw->Prop} {vs:List (Option Value)} {i:Nat} {o:Oper}
theorem Qq (hm:MkOk C mk) (L:∀W W',B W->ZB W W'->B W') (M:∀c∈C,c.1≠i) (g:bx≠i) (hd:bd≠i)
  (h:∀(a:Act) (w:Zw),(∀t,noB ops t=true->a.tmps.getD t undef=a0.tmps.getD t undef)->B w ->
   (∀j d x,(ops[j]?).bind (·.dst)=some d->Region.waitsFor .any ops i j=true->vs.getD j none=some x->a.tmps.getD d undef=x) ->
   Region.wanted o (yielded ops a.tmps)=true/\o.wp Tryz.prog a w (fun s w'=>∃v,s=a.put o.dst v/\ZB w w'/\vs.getD i none=some v) Q) :
  YGoal Tryz.prog ops Q a0 n B (VP vs) (XG n0 bx bd zO C mk) i o:=fun a w f _ _ U _ G I V _ _ Y=>by
 obtain⟨Z,k2⟩:=h a w U G fun j d x r hw g=>VP.at (W:=w) (I j _ (Y j d r hw)) g
 refine⟨Z,Xo ?_ k2⟩;rintro s w' ⟨v,rfl,J,hv⟩;exact⟨v,rfl,L _ _ G J,VP.is v _ hv,fun j u r=>I j u r,XG.other hm V J M g hd⟩
theorem Qr {F:Zw->Value->Prop} {fn:FuncId} {x:Operand} {t:TypeId} {u:Value} (hm:MkOk C mk) (J:(i,F)∈C) (hu:∀c∈C,c.1=i->c=(i,F)) (g:bx≠i) (hd:bd≠i) (L:o.guard=none) (M:o.op=.call { callee:=.value (.func fn),args:=#[x],argTypes:=#[t] }) (U:vs.getD i none=none) (V:∀W W',B W->ZB W W'->B W') (Y:∀W,B W->n0<=W.heap.size) (Z:∀args w,Sem.run Tryz.prog (callFunc fn args) w=.ok (.enter fn args) w)
  (ha:∀a:Act,(∀j d x,(ops[j]?).bind (·.dst)=some d->Region.waitsFor .any ops i j=true->vs.getD j none=some x->a.tmps.getD d undef=x)->a.eval x=u)
  (hC:∀W,B W->Zg fn #[u] W fun e w'=>(∃v,e=.returned v/\∀s:Zw,(∀j,W.heap.size<=j->j<w'.heap.size->s.heap[j]?=w'.heap[j]?)->F s v)/\ZB W w') :
  YGoal Tryz.prog ops Q a0 n B (VP vs) (XG n0 bx bd zO C mk) i o:=fun a w _ _ _ _ _ h G h6 aa _ h8=>
 ⟨J1 L,zai M (ha a fun j d _ r hw g=>VP.at (W:=w) (G j _ (h8 j d r hw)) g) Z ((hC w h).mono fun _ _ ⟨⟨_,he,hs⟩,I⟩=>⟨_,he,_,rfl,V _ _ h I,Qe _ _ U,fun j u r=>G j u r,XG.call hm J hu h6 aa g hd I (Y _ h) hs⟩)⟩
theorem GG.box {T:TypeId} (hm:MkOk C mk) (h:∀c∈C,c.1≠bx) (hd:bd≠bx) (r:o.guard=none) (s:o.op=.alloc T) (hz:∀w,(execOp (fun _=>undef) o).run Tryz.prog w=.ok (.value (.pointer (Zs w.heap.size 0))) (w.alloc zO)) (t:vs.getD bx none=none) (x:∀W W',B W->ZB W W'->B W') (G:∀W,B W->n0<=W.heap.size) :
  YGoal Tryz.prog ops Q a0 n B (VP vs) (XG n0 bx bd zO C mk) bx o:=fun a w _ _ _ _ _ g I J _ _ _=>by
 refine⟨J1 r,?_⟩;unfold Oper.wp;have he:execOp a.eval o=execOp (fun _=>undef) o:=by simp only[execOp,s]
 rw[he,hz w];exact⟨_,rfl,x _ _ g (sal1 _ _),Qe _ _ t,fun j u L=>I j u L,XG.box hm J h hd (G _ g)⟩
end
section
variable {o:Oper} {a:Act} {w:Zw} {K:Act->Zw->Prop} {Q:Exit->Act->Zw->Prop}
theorem op_fC (i:Nat) {x:Operand} {b off:Nat} (c:[0,1,2,3,4,9][i]?=some off) (g:o.op=.fieldAddr 34 x i) (j:a.eval x=.pointer (Zs b 0)) (h:K (a.put o.dst (.pointer (Zs b off))) w):o.wp Tryz.prog a w K Q:=by
 unfold Oper.wp
 match i,c with
 | 0,c|1,c|2,c|3,c|4,c|5,c=>simp only[execOp,g,j];go_simp;obtain rfl:=Y1 c;exact h
theorem op_buildC {g j r s:Operand} {O N:Zy} {y:T5} {p:Zo} {n c:Nat} (t:o.op=.build 34 #[(1,g),(2,j),(4,r),(5,s)]) (u:a.eval g=.string O) (x:a.eval j=.string N) (G:a.eval r=y.val) (I:a.eval s=.slice p n c)
  (h:K (a.put o.dst (C10.val ⟨0,O,N,none,0,0,y,p,n,c⟩)) w):o.wp Tryz.prog a w K Q:=by
 unfold Oper.wp;simp only[execOp,t,Xp,Yf,YG,u,x,G,I];go_simp;exact h
theorem op_buildPa {c g:Operand} {X:Zy} {z:T5} (j:o.op=.build 94 #[(0,c),(1,g)]) (r:a.eval c=.string X) (s:a.eval g=z.val) (h:K (a.put o.dst (.agg #[.string X,Zi z.K,.string z.S,.slice z.pn z.nn z.cn,.slice z.pe z.ne z.ce,.slice z.pp z.np z.cp])) w):o.wp Tryz.prog a w K Q:=by
 unfold Oper.wp;simp only[execOp,j,Xp,Yf,YG,r,s];go_simp;exact h
theorem op_layPa {x:Operand} {c g j c3 c4 c5:Value} (r:o.op=.buildSlice 26 1 #[(0,x)]) (s:a.eval x=.agg #[c,g,j,c3,c4,c5]) (h:K (a.put o.dst (.slice (Zs w.heap.size 0) 1 1)) (w.alloc (.cells #[c,g,j,c3,c4,c5] 94))):o.wp Tryz.prog a w K Q:=by
 unfold Oper.wp;simp only[execOp,r,Xp,Yf,YG,s];go_simp;exact h
theorem zem {s x:Operand} {t:TypeId} {v u c:Value} {w':Zw} (g:o.op=.call { callee:=.builtin .append,args:=#[s,x],argTypes:=#[t,t] }) (j:a.eval s=v) (r:a.eval x=u) (G:(Builtin.append_ #[t,t] o.type #[v,u]).run Tryz.prog w=.ok c w') (h:K (a.put o.dst c) w'):o.wp Tryz.prog a w K Q:=by
 unfold Oper.wp;simp[execOp,g,resolve,invoke,builtin,j,r,G,Result.andThen];exact h
theorem op_storePs {x y:Operand} {b i:Nat} {v0:Value} {p:Zo} {n c:Nat} (g:o.op=.store 26 x y) (hd:o.dst=none) (j:a.eval x=.pointer (Zs b i)) (r:a.eval y=.slice p n c) (s:w.cell? ⟨b,i,none⟩=some v0) (t:w.frozen? ⟨b,i,none⟩=false) (h:K a (w.setCell ⟨b,i,none⟩ (.slice p n c))):o.wp Tryz.prog a w K Q:=by
 unfold Oper.wp;simp only[execOp,g,j,r];go_simp;exact h
end
theorem GG.build {n0 bx bd:Nat} {zO:Obj} {C:List (Nat×(Zw->Value->Prop))} {mk:(Nat->Option Value)->Option Value} {ops:Array Oper} {Q:Exit->Act->Zw->Prop} {a0:Act} {n:Nat} {B:Zw->Prop} {vs:List (Option Value)} {o:Oper} (hm:MkOk C mk) (g:∀c∈C,c.1≠bd) (hd:bx≠bd) (G:o.guard=none) (I:vs.getD bd none=none)
  (J:∀(a:Act) (w:Zw) (f:Nat->Option Value),XG n0 bx bd zO C mk f w->(∀j d x,(ops[j]?).bind (·.dst)=some d->Region.waitsFor .any ops bd j=true->vs.getD j none=some x->a.tmps.getD d undef=x)->(∀j d,(ops[j]?).bind (·.dst)=some d->Region.waitsFor .any ops bd j=true->f j=some (a.tmps.getD d undef)) ->
   ∃v,mk f=some v/\∀K:Act->Zw->Prop,K (a.put o.dst v) w->o.wp Tryz.prog a w K Q) :
  YGoal Tryz.prog ops Q a0 n B (VP vs) (XG n0 bx bd zO C mk) bd o:=fun a w f _ _ _ _ L r s _ _ t=>by
 obtain⟨v,e,M⟩:=J a w f s (fun j d x h hw g=>VP.at (W:=w) (r j _ (t j d h hw)) g) t;exact⟨J1 G,M _ ⟨_,rfl,L,Qe _ _ I,fun j u h=>r j u h,XG.build hm s g hd e⟩⟩
theorem SI.set {wr W:Zw} {F:Zw->Prop} {n bx i:Nat} {zs:Array Value} {t:TypeId} (v:Value) (h:SI wr F n bx (.cells zs t) W):SI wr F n bx (.cells (zs.setIfInBounds i v) t) (W.setCell ⟨bx,i,none⟩ v):=by
 obtain⟨c,⟨g,x,r⟩,s,G⟩:=id h;exact h.step (zhk c v) (s.setCell (p:=⟨bx,i,none⟩) g _) (by simpa using r) fun j _ u=>Ja u
def F6 (E:Nat) (t:Ty E) (W:Zw) (v:Value):Prop:=∃y:T5,v=y.val/\TyValD W E y.val t
def F9 (D d m:Nat) (g:List (St D d m)) (W:Zw) (v:Value):Prop:=∃q c,v=.slice q g.length c/\StRow W D d m v g
def mkC (O N:Zy) (f:Nat->Option Value):Option Value:=match f 6,f 9 with
 | some (.agg c),some b=>some (.agg (#[Zi 0,.string O,.string N,Zz]++c++#[b]))
 | _,_=>none
theorem mkC_ok (O N:Zy) (A B:Zw->Value->Prop):MkOk [(6,A),(9,B)] (mkC O N):=by
 refine⟨fun f i v h=>?_,fun f v e c g=>?_⟩
 ·have j:(6:Nat)≠i:=h (6,A) (by simp);have r:(9:Nat)≠i:=h (9,B) (by simp);rw[mkC,mkC,J7 f v j,J7 f v r]
 ·rw[mkC]at e
  split at e
  ·rename_i s t;simp only[Xj,List.not_mem_nil,or_false]at g;rcases g with rfl|rfl
   ·rw[s];simp
   ·rw[t];simp
  ·cases e
def vC1 (g0:Nat) (O N:Zy) (K:Int) (S:Zy) (pn pe pp pb:Zo) (nn cn ne ce np cp nb cb:Nat):List (Option Value):=[some (.pointer (Zs g0 1)),some (.string O),some (.pointer (Zs g0 2)),some (.string N),some (.pointer (Zs g0 4)),some (.agg #[Zi K,.string S,.slice pn nn cn,.slice pe ne ce,.slice pp np cp]),none,some (.pointer (Zs g0 9)),some (.slice pb nb cb),none,none,none,none]
def vC6 (g0 bx g o k:Nat) (q:Zo) (c nq cq:Nat) (X:Zy) (h:Int) (S':Zy) (j r s:Zo) (t u ne' x G I:Nat):List (Option Value):=[some (.pointer (Zs bx 3)),some (.slice q k c),some (.pointer (Zs g0 3)),some (.slice (Zs g o) nq cq),some (Zi (k:Int)),some (.pointer (Zs g (o+k*6))),some (.pointer (Zs g (o+k*6))),some (.string X),some (.pointer (Zs g0 3)),some (.slice (Zs g o) nq cq),some (Zi (k:Int)),some (.pointer (Zs g (o+k*6))),some (.pointer (Zs g (o+k*6+1))),some (.agg #[Zi h,.string S',.slice j t u,.slice r ne' x,.slice s G I]),none,none,none,none,some (.pointer (Zs bx 3)),none]
def QPa (E:Nat) (W:Zw) (u:List Value) (x:Pa E):Prop:=∃y:T5,u=[.string ⟨x.1.toArray⟩,Zi y.K,.string y.S,.slice y.pn y.nn y.cn,.slice y.pe y.ne y.ce,.slice y.pp y.np y.cp]/\TyValD W E y.val x.2
theorem info_pa:(Tryz.prog.info? 94).map (fun i=>(i.zero,i.size,i.bytes))=some (some (.agg #[.string ⟨#[]⟩,Zi 0,.string ⟨#[]⟩,Zz,Zz,Zz]),6,112):=by kernel_rfl
theorem QPa.row {E B:Nat} {W W':Zw} {v:Value} {s:List (Pa E)} (h:OG 94 6 (QPa E) B W v s) (t:∀j,B<=j->j<W.heap.size->W'.heap[j]?=W.heap[j]?):PaRow W' E v s:=by
 obtain⟨p,c,rfl,hp⟩:=h.cells t;refine⟨p,c,rfl,fun j x G=>?_⟩;obtain⟨g,u,rfl,⟨y,rfl,I⟩,r⟩:=hp j x G;exact⟨g,0,y,rfl,r 0 _ rfl,⟨r 1 _ rfl,r 2 _ rfl,r 3 _ rfl,r 4 _ rfl,r 5 _ rfl⟩,I⟩
theorem own_t5 {E:Nat} {t:Ty E} {v:Value} {w:Zw} (r:TyValD w E v t) (hz:szD E t<=1000000):Zg 56 #[v] w fun e w'=>(∃v,e=.returned v/\∀c:Zw,(∀j,w.heap.size<=j->j<w'.heap.size->c.heap[j]?=w'.heap[j]?)->F6 E t c v)/\ZB w w':=
 (own_any E t v w r hz).mono fun e w' ⟨⟨u,he,_,s⟩,x⟩=>⟨⟨_,he,fun c G=>by
  have h:=s c G;obtain⟨y,g⟩:=t5_of h;exact⟨y,g,by rw[g]at h;exact h⟩⟩,x⟩
section
variable {W0 W:Zw} {F:Zw->Prop} {n bx:Nat} {A:Int} {O N:Zy} {q qb:Zo} {k cq nb yb:Nat} {y:T5} {v:Value}
def PR (W0:Zw) (F:Zw->Prop) (n bx:Nat) (A:Int) (O N:Zy) (q:Zo) (k cq:Nat) (y:T5) (qb:Zo) (nb yb:Nat) {E:Nat} (h:List (Pa E)) (X:Zy) (w1:Zw) (z:T5) (g cap:Nat) (c:Zw):Prop:=
 ZB W0 w1/\w1.cell? ⟨bx,3,none⟩=some (.slice q k cq)/\(w1.alloc (.cells #[.string X,Zi z.K,.string z.S,.slice z.pn z.nn z.cn,.slice z.pe z.ne z.ce,.slice z.pp z.np z.cp] 94)).cell? ⟨bx,3,none⟩=some (.slice q k cq) /\
 (Builtin.append_ #[26,26] 26 #[.slice q k cq,.slice (Zs w1.heap.size 0) 1 1]).run Tryz.prog (w1.alloc (.cells #[.string X,Zi z.K,.string z.S,.slice z.pn z.nn z.cn,.slice z.pe z.ne z.ce,.slice z.pp z.np z.cp] 94))=.ok (.slice (Zs g 0) (k+1) cap) c /\
 ZB W0 c/\c.cell? ⟨bx,3,none⟩=some (.slice q k cq)/\c.frozen? ⟨bx,3,none⟩=false /\
 OG 94 6 (QPa E) n (c.setCell ⟨bx,3,none⟩ (.slice (Zs g 0) (k+1) cap)) (.slice (Zs g 0) (k+1) cap) (h.take (k+1)) /\
 SI W0 F n bx (.cells #[Zi A,.string O,.string N,.slice (Zs g 0) (k+1) cap,Zi y.K,.string y.S,.slice y.pn y.nn y.cn,.slice y.pe y.ne y.ce,.slice y.pp y.np y.cp,.slice qb nb yb] 34) (c.setCell ⟨bx,3,none⟩ (.slice (Zs g 0) (k+1) cap))
theorem pround {E:Nat} {c:List (Pa E)} (r:SI W0 F n bx (.cells #[Zi A,.string O,.string N,.slice q k cq,Zi y.K,.string y.S,.slice y.pn y.nn y.cn,.slice y.pe y.ne y.ce,.slice y.pp y.np y.cp,.slice qb nb yb] 34) W) (G:OG 94 6 (QPa E) n W (.slice q k cq) (c.take k)) (I:k<c.length) (J:c.length<=1000000) (hz:szD E c[k].2<=1000000) (L:∀V,ZB W0 V->TyValD V E v c[k].2) :
  Zg 56 #[v] W.drew fun e w1=>∃(z:T5) (g cap:Nat) (j:Zw),e=.returned z.val/\PR W0 F n bx A O N q k cq y qb nb yb c ⟨c[k].1.toArray⟩ w1 z g cap j:=by
 have M:=r.2.2.1;refine(own_t5 (L W.drew (Jb M)) hz).mono ?_;rintro e w1 ⟨⟨u,rfl,s⟩,U⟩;obtain⟨z,rfl,_⟩:=s w1 fun _ _ _=>rfl
 have h:=OG.round (i:=3) (u:=[.string ⟨c[k].1.toArray⟩,Zi z.K,.string z.S,.slice z.pn z.nn z.cn,.slice z.pe z.ne z.ce,.slice z.pp z.np z.cp]) Tryz.underlying26 info_pa rfl (by decide) (by decide) r rfl G I J (JO U) (fun W' Y=>by
  obtain⟨y',Z,h'⟩:=s W' Y;exact⟨z,rfl,by rw[Z];exact h'⟩) (fun x t=>by
  simp at t;rcases t with rfl|rfl|rfl|rfl|rfl|rfl <;> rfl) rfl
 simp only[Xf,Xu,List.set_cons_succ]at h;obtain⟨h1,h2,h3,g,cap,j,h4,h5⟩:=h;exact⟨z,g,cap,j,rfl,h1,h2,h3,h4,h5⟩
end
def XL (Wd:Zw) (R:Zw->T5->Nat->Nat->Zw->Prop) (X:Zy) (k:Nat) (f:Nat->Option Value) (W:Zw):Prop:=
 (f 14=none->W=Wd)/\∀v,f 14=some v->∃w1 z c cap g,v=z.val/\R w1 z c cap g/\(f 16=none->W=w1)/\(∀b,f 15=some b->b=.agg #[.string X,Zi z.K,.string z.S,.slice z.pn z.nn z.cn,.slice z.pe z.ne z.ce,.slice z.pp z.np z.cp])/\∀s,f 16=some s->s=.slice (Zs w1.heap.size 0) 1 1/\(f 17=none->W=w1.alloc (.cells #[.string X,Zi z.K,.string z.S,.slice z.pn z.nn z.cn,.slice z.pe z.ne z.ce,.slice z.pp z.np z.cp] 94))/\∀r,f 17=some r->W=g/\r=.slice (Zs c 0) (k+1) cap
theorem XL.other {Wd:Zw} {R:Zw->T5->Nat->Nat->Zw->Prop} {X:Zy} {k i:Nat} {f:Nat->Option Value} {W:Zw} {v:Value} (c:i≠14/\i≠15/\i≠16/\i≠17) (h:XL Wd R X k f W):XL Wd R X k (JT f i v) W:=by
 unfold XL;rw[J7 f v (Ne.symm c.1),J7 f v (Ne.symm c.2.1),J7 f v (Ne.symm c.2.2.1),J7 f v (Ne.symm c.2.2.2)];exact h
section
variable {Wd:Zw} {R:Zw->T5->Nat->Nat->Zw->Prop} {X:Zy} {k:Nat} {ops:Array Oper} {Q:Exit->Act->Zw->Prop} {a0:Act} {n:Nat} {B:Zw->Prop} {vs:List (Option Value)} {i:Nat} {o:Oper}
theorem Qs (G:i≠14/\i≠15/\i≠16/\i≠17)
  (h:∀(a:Act) (w:Zw),(∀t,noB ops t=true->a.tmps.getD t undef=a0.tmps.getD t undef)->B w ->
   (∀j d x,(ops[j]?).bind (·.dst)=some d->Region.waitsFor .any ops i j=true->vs.getD j none=some x->a.tmps.getD d undef=x) ->
   Region.wanted o (yielded ops a.tmps)=true/\o.wp Tryz.prog a w (fun g w'=>∃v,g=a.put o.dst v/\w'=w/\vs.getD i none=some v) Q) :
  YGoal Tryz.prog ops Q a0 n B (VP vs) (XL Wd R X k) i o:=fun a w f _ _ I _ r s J _ _ L=>by
 obtain⟨M,U⟩:=h a w I r fun j d x c hw V=>VP.at (W:=w) (s j _ (L j d c hw)) V
 refine⟨M,Xo ?_ U⟩;rintro g w' ⟨v,rfl,rfl,Y⟩;exact⟨v,rfl,r,VP.is v _ Y,fun j u c=>s j u c,XL.other G J⟩
theorem LG.call {x:Operand} {t:TypeId} {u:Value} (U:o.guard=none) (V:o.op=.call { callee:=.value (.func 56),args:=#[x],argTypes:=#[t] }) (Y:vs.getD 14 none=none) (Z:Region.waitsFor .any ops 15 14=true) (aa:Region.waitsFor .any ops 16 15=true) (ab:Region.waitsFor .any ops 17 16=true)
  (ha:∀a:Act,(∀j d x,(ops[j]?).bind (·.dst)=some d->Region.waitsFor .any ops 14 j=true->vs.getD j none=some x->a.tmps.getD d undef=x)->a.eval x=u) (hC:Zg 56 #[u] Wd fun e w1=>∃(z:T5) (c cap:Nat) (g:Zw),e=.returned z.val/\R w1 z c cap g) (hR:∀w1 z c cap g,R w1 z c cap g->B w1) :
  YGoal Tryz.prog ops Q a0 n B (VP vs) (XL Wd R X k) 14 o:=fun a w f _ _ _ _ h4 s h6 G down h8=>by
 obtain rfl:=h6.1 G;have I:=J6 down Z G;have J:=J6 down aa I;have ac:=J6 down ab J;refine⟨J1 U,zai V (ha a fun j d _ r hw hx=>VP.at (W:=w) (s j _ (h8 j d r hw)) hx) zev (hC.mono fun _ w1 ⟨z,c,cap,g,he,L⟩=>⟨_,he,_,rfl,hR _ _ _ _ _ L,Qe _ _ Y,fun j u r=>s j u r,⟨fun h=>(by rw[Jn]at h;cases h),fun v M=>?_⟩⟩)⟩;rw[Jn]at M;obtain rfl:=Y1 M;rw[J7 f _ (by decide),J7 f _ (by decide),J7 f _ (by decide),I,J];exact⟨w1,z,c,cap,g,rfl,L,fun _=>rfl,(fun _ h=>nomatch h),fun _ h=>nomatch h⟩
theorem LG.build {d14 d7:Nat} (I:o.guard=none) (J:o.op=.build 94 #[(0,.tmp d7),(1,.tmp d14)]) (L:vs.getD 15 none=none) (M:(ops[14]?).bind (·.dst)=some d14) (U:Region.waitsFor .any ops 15 14=true) (V:Region.waitsFor .any ops 16 15=true)
  (Y:∀a:Act,(∀j d x,(ops[j]?).bind (·.dst)=some d->Region.waitsFor .any ops 15 j=true->vs.getD j none=some x->a.tmps.getD d undef=x)->a.tmps.getD d7 undef=.string X):YGoal Tryz.prog ops Q a0 n B (VP vs) (XL Wd R X k) 15 o:=fun a w f _ _ _ _ Z g h6 aa down r=>by
 have f14:=r 14 d14 M U;obtain⟨w1,z,g',cap,W4,s,hr,q1,q2,q3⟩:=h6.2 _ f14;have t:=J6 down V aa;refine⟨J1 I,op_buildPa J (Y a fun j d _ c hw hx=>VP.at (W:=w) (g j _ (r j d c hw)) hx) s ⟨_,rfl,Z,Qe _ _ L,fun j u c=>g j u c,⟨fun h=>?_,fun v G=>?_⟩⟩⟩
 ·rw[J7 f _ (by decide),f14]at h;cases h
 ·rw[J7 f _ (by decide),f14]at G;obtain rfl:=Y1 G;rw[Jn,J7 f _ (by decide),J7 f _ (by decide),t];exact⟨w1,z,g',cap,W4,s,hr,fun _=>q1 t,fun b h=>(Y1 h).symm,fun _ h=>nomatch h⟩
theorem LG.lay {d15:Nat} (I:o.guard=none) (J:o.op=.buildSlice 26 1 #[(0,.tmp d15)]) (L:vs.getD 16 none=none) (M:(ops[15]?).bind (·.dst)=some d15) (U:Region.waitsFor .any ops 16 15=true) (V:Region.waitsFor .any ops 15 14=true) (Y:Region.waitsFor .any ops 17 16=true)
  (Z:∀w1 z c cap g,R w1 z c cap g->B (w1.alloc (.cells #[.string X,Zi z.K,.string z.S,.slice z.pn z.nn z.cn,.slice z.pe z.ne z.ce,.slice z.pp z.np z.cp] 94))):YGoal Tryz.prog ops Q a0 n B (VP vs) (XL Wd R X k) 16 o:=fun a w f _ _ _ _ h4 h5 h6 r down h8=>by
 have f15:=h8 15 d15 M U;obtain⟨v,f14⟩:=Y4.1 (down 15 14 V (by rw[f15];simp));obtain⟨w1,z,c,cap,g,ez,t,q1,x,q3⟩:=h6.2 _ f14;have aa:=J6 down Y r;obtain rfl:=q1 r;refine⟨J1 I,op_layPa J (x _ f15) ⟨_,rfl,Z _ _ _ _ _ t,Qe _ _ L,fun j u hj=>h5 j u hj,⟨fun h=>?_,fun v' G=>?_⟩⟩⟩
 ·rw[J7 f _ (by decide),f14]at h;cases h
 ·rw[J7 f _ (by decide),f14]at G;obtain rfl:=Y1 G;rw[Jn,J7 f _ (by decide),J7 f _ (by decide),aa];exact⟨w,z,c,cap,g,ez,t,(fun h=>nomatch h),x,fun s hs=>⟨(Y1 hs).symm,fun _=>rfl,fun _ h=>nomatch h⟩⟩
theorem LG.app {d1 d16:Nat} {q:Zo} {cq:Nat} (M:o.guard=none) (U:o.op=.call { callee:=.builtin .append,args:=#[.tmp d1,.tmp d16],argTypes:=#[26,26] }) (V:o.type=26) (Y:vs.getD 17 none=none) (Z:(ops[16]?).bind (·.dst)=some d16) (aa:Region.waitsFor .any ops 17 16=true) (ab:Region.waitsFor .any ops 16 15=true) (ac:Region.waitsFor .any ops 15 14=true)
  (ha:∀a:Act,(∀j d x,(ops[j]?).bind (·.dst)=some d->Region.waitsFor .any ops 17 j=true->vs.getD j none=some x->a.tmps.getD d undef=x)->a.tmps.getD d1 undef=.slice q k cq)
  (hR:∀w1 z g cap c,R w1 z g cap c->(Builtin.append_ #[26,26] 26 #[.slice q k cq,.slice (Zs w1.heap.size 0) 1 1]).run Tryz.prog (w1.alloc (.cells #[.string X,Zi z.K,.string z.S,.slice z.pn z.nn z.cn,.slice z.pe z.ne z.ce,.slice z.pp z.np z.cp] 94))=.ok (.slice (Zs g 0) (k+1) cap) c/\B c):YGoal Tryz.prog ops Q a0 n B (VP vs) (XL Wd R X k) 17 o:=fun a w f _ _ _ _ h4 G h6 ad down I=>by
 have f16:=I 16 d16 Z aa;obtain⟨af,f15⟩:=Y4.1 (down 16 15 ab (by rw[f16];simp));obtain⟨v,f14⟩:=Y4.1 (down 15 14 ac (by rw[f15];simp));obtain⟨w1,z,g,cap,c,ez,J,q1,q2,q3⟩:=h6.2 _ f14;obtain⟨es,q4,q5⟩:=q3 _ f16;obtain rfl:=q4 ad;obtain⟨r1,r2⟩:=hR _ _ _ _ _ J;refine⟨J1 M,zem U (ha a fun j d _ t hw hx=>VP.at (W:=_) (G j _ (I j d t hw)) hx) es (by rw[V];exact r1) ⟨_,rfl,r2,Qe _ _ Y,fun j u t=>G j u t,⟨fun h=>?_,fun v' L=>?_⟩⟩⟩
 ·rw[J7 f _ (by decide),f14]at h;cases h
 ·rw[J7 f _ (by decide),f14]at L;obtain rfl:=Y1 L;rw[Jn,J7 f _ (by decide),J7 f _ (by decide),f16];exact⟨w1,z,g,cap,c,ez,J,(fun h=>nomatch h),q2,fun s hs=>by
   obtain rfl:=Y1 hs;exact⟨es,(fun h=>nomatch h),fun r ae=>⟨rfl,(Y1 ae).symm⟩⟩⟩
end
theorem ownc_any (E D d m:Nat) (x:C10) (c:Co E D d m) (w:Zw) (hv:CoIs w E D d m x c) (hz:zei E D d m c<=1000000) :
  Zg 31 #[x.val] w fun e w'=>(∃y:C10,e=.returned y.val/\∀W':Zw,(∀j,w.heap.size<=j->j<w'.heap.size->W'.heap[j]?=w'.heap[j]?)->CoIs W' E D d m y c)/\ZB w w':=by
 obtain⟨A,O,N,pq,nq,cq,⟨K,S,pn,pe,pp,nn,cn,ne,ce,np,cp⟩,pb,nb,cb⟩:=x;obtain⟨hA,hO,hN,hq,hT,hb⟩:=hv;dsimp only at hA hO hN hq hT hb;unfold zei at hz;have ax:=hq.len;have aj:nb=(zaf c).length:=by
  obtain⟨p',c',e⟩:=hb.slice;injection e
 have ay:∀(k:Nat) (h:k<(cPs c).length),szD E (cPs c)[k].2<=1000000:=fun k h=>by
  have h2:1+(cPs c)[k].1.length+szD E (cPs c)[k].2<=szPs E (cPs c):=zbu (YF.2 ⟨(cPs c)[k],by simp,rfl⟩);omega
 have az:(cPs c).length<=1000000:=by
  have h1:(cPs c).length<=szPs E (cPs c):=zcp _ (fun x=>by omega) _;omega
 obtain⟨_,_,e,hp⟩:=hq;injection e with e1 e2 e3
 subst e1;have aT:nq<=1000000:=by omega
 have HP:=J3 hp;have ac:=J3 ay;have ad:=J3 ax;have ae:=J3 az;have af:ZH (A=c.1/\O=⟨(zcw c).toArray⟩/\N=⟨(JV c).toArray⟩):=⟨hA,hO,hN⟩
 have OT:ZH (∀V,ZB w V->Zg 56 #[.agg #[Zi K,.string S,.slice pn nn cn,.slice pe ne ce,.slice pp np cp]] V fun e w'=>(∃v,e=.returned v/\∀W2:Zw,(∀j,V.heap.size<=j->j<w'.heap.size->W2.heap[j]?=w'.heap[j]?)->F6 E (zgv c) W2 v)/\ZB V w'):=fun V h=>own_t5 (TyValD.below h hT) (by omega)
 have OS:ZH (∀V,ZB w V->Zg 57 #[.slice pb nb cb] V fun e w'=>(∃v,e=.returned v/\∀W2:Zw,(∀j,V.heap.size<=j->j<w'.heap.size->W2.heap[j]?=w'.heap[j]?)->F9 D d m (zaf c) W2 v)/\ZB V w'):=fun V h=>by
  have h1:=owns_any D d m (zaf c) pb cb V (by rw[<-aj];exact StRow.below h m hb) (by omega);unfold zfq at h1;rw[aj];exact h1.mono fun e w' ⟨⟨q,cq,he,hs⟩,hb⟩=>⟨⟨_,he,fun W2 aS=>⟨q,cq,rfl,hs W2 aS⟩⟩,hb⟩
 have ak:=J3 aj;clear hA hO hN hp hT hb ax aj e2 e3 ay az hz;go_enter Tryz.func31,Tryz.ntmps31;go_upto_region 1 with fail
 obtain⟨W0,ag⟩:∃W:Zw,W=(w.alloc (Obj.cells #[Zi A,.string O,.string N,.slice pq nq cq,Zi K,.string S,.slice pn nn cn,.slice pe ne ce,.slice pp np cp,.slice pb nb cb] 34)).alloc (Obj.cells #[Zi 0,.string ⟨#[]⟩,.string ⟨#[]⟩,Zz,Zi 0,.string ⟨#[]⟩,Zz,Zz,Zz,Zz] 34):=⟨_,rfl⟩
 obtain⟨g0,ao⟩:∃g:Nat,g=w.heap.size:=⟨_,rfl⟩
 obtain⟨g1,ap⟩:∃g:Nat,g=w.heap.size+1:=⟨_,rfl⟩
 have hz:(w.alloc (Obj.cells #[Zi A,.string O,.string N,.slice pq nq cq,Zi K,.string S,.slice pn nn cn,.slice pe ne ce,.slice pp np cp,.slice pb nb cb] 34)).heap.size=g1:=by rw[ap];simp
 rw[<-ag,<-ap,<-ao];have C0:ZH (ZL10 W0 g0 (Zi A) (.string O) (.string N) (.slice pq nq cq) (Zi K) (.string S) (.slice pn nn cn) (.slice pe ne ce) (.slice pp np cp) (.slice pb nb cb)):=by rw[ag,ao];exact zbr (x:=⟨A,O,N,pq,nq,cq,⟨K,S,pn,pe,pp,nn,cn,ne,ce,np,cp⟩,pb,nb,cb⟩) (Za _ _)
 have Z0:ZH (W0.heap[g1]?=some (.cells #[Zi 0,.string ⟨#[]⟩,.string ⟨#[]⟩,Zz,Zi 0,.string ⟨#[]⟩,Zz,Zz,Zz,Zz] 34)/\w.heap.size<=g1/\g1<W0.heap.size):=by
  rw[ag,<-hz];exact⟨Jm _ _,by simp,by simp⟩
 have H0:ZH (ZB w W0):=by rw[ag];exact(Za _ _).alloc (by simp) _
 clear ag ao ap hz;have L:ZH (∀V,ZB W0 V->ZB w V):=fun V h=>Zn H0 h
 have U:ZH (∀V,ZB W0 V->ZL10 V g0 (Zi A) (.string O) (.string N) (.slice pq nq cq) (Zi K) (.string S) (.slice pn nn cn) (.slice pe ne ce) (.slice pp np cp) (.slice pb nb cb)):=fun V h=>zbp C0 h
 go_cut [3] (fun x wx=>∃(bx:Nat) (y:T5) (qb:Zo) (yb:Nat) (Y:Zw),x=.pointer (Zs bx 0)/\Y=wx/\ZH (SI W0 (fun W'=>(TyValD W' E y.val (zgv c)/\StRow W' D d m (.slice qb nb yb) (zaf c))) Y.heap.size bx (.cells #[Zi 0,.string O,.string N,Zz,Zi y.K,.string y.S,.slice y.pn y.nn y.cn,.slice y.pe y.ne y.ce,.slice y.pp y.np y.cp,.slice qb nb yb] 34) Y))
 case first=>
  obtain⟨B,aa⟩:=Ze (fun W=>ZB W0 W:Zw->Prop)
  have ab:∀W,B W->ZB W0 W:=fun W h=>by rw[aa]at h;exact h
  have Z:∀W,ZB W0 W->B W:=fun W h=>by rw[aa];exact h
  have sB:∀W W',B W->ZB W W'->B W':=fun W W' h hb=>Z _ (zax (ab _ h) hb)
  have al:∀W,B W->W0.heap.size<=W.heap.size:=fun W h=>(ab W h).size
  have cC:∀W,B W->_:=fun W h=>J0 U W (ab W h)
  have cT:∀W,B W->_:=fun W h=>J0 OT W (L W (ab W h))
  have cS:∀W,B W->_:=fun W h=>J0 OS W (L W (ab W h))
  have hm:=mkC_ok O N (F6 E (zgv c)) (F9 D d m (zaf c));clear U OT OS HP ac ad ae af C0 Z0 H0 L;refine zec (n:=48) (z:=12) Zk Zk Zk Zk rfl rfl rfl B (VP (vC1 g0 O N K S pn pe pp pb nn cn ne ce np cp nb cb)) (XG W0.heap.size 11 10 (.cells #[Zi 0,.string ⟨#[]⟩,.string ⟨#[]⟩,Zz,Zi 0,.string ⟨#[]⟩,Zz,Zz,Zz,Zz] 34) [(6,F6 E (zgv c)),(9,F9 D d m (zaf c))] (mkC O N)) (Z _ (Jb Zr)) (XG.init _) ?each ?fin
  case each=>
   refine⟨?_,?_,?_,?_,?_,?_,?_,?_,?_,?_,?_,?_,?_,trivial⟩
   ·exact fun _=>Qq hm sB (by simp) (by decide) (by decide) (fun s W t u dep=>⟨J1 rfl,op_fC 1 rfl rfl (show s.eval (.tmp 1)=Value.pointer (Zs g0 0)from t 1 Zk) ⟨_,rfl,Zr,rfl⟩⟩)
   ·exact fun _=>Qq hm sB (by simp) (by decide) (by decide) (fun s W t u dep=>⟨J1 rfl,zaz rfl (dep 0 5 _ Zk Zk rfl) (cC W u).2.1 ⟨_,rfl,Zr,rfl⟩⟩)
   ·exact fun _=>Qq hm sB (by simp) (by decide) (by decide) (fun s W t u dep=>⟨J1 rfl,op_fC 2 rfl rfl (show s.eval (.tmp 1)=Value.pointer (Zs g0 0)from t 1 Zk) ⟨_,rfl,Zr,rfl⟩⟩)
   ·exact fun _=>Qq hm sB (by simp) (by decide) (by decide) (fun s W t u dep=>⟨J1 rfl,zaz rfl (dep 2 7 _ Zk Zk rfl) (cC W u).2.2.1 ⟨_,rfl,Zr,rfl⟩⟩)
   ·exact fun _=>Qq hm sB (by simp) (by decide) (by decide) (fun s W t u dep=>⟨J1 rfl,op_fC 4 rfl rfl (show s.eval (.tmp 1)=Value.pointer (Zs g0 0)from t 1 Zk) ⟨_,rfl,Zr,rfl⟩⟩)
   ·exact fun _=>Qq hm sB (by simp) (by decide) (by decide) (fun s W t u dep=>⟨J1 rfl,zc8 rfl (dep 4 9 _ Zk Zk rfl) (let h:=cC W u;⟨h.2.2.2.2.1,h.2.2.2.2.2.1,h.2.2.2.2.2.2.1,h.2.2.2.2.2.2.2.1,h.2.2.2.2.2.2.2.2.1⟩) ⟨_,rfl,Zr,rfl⟩⟩)
   ·exact fun _=>Qr hm (F:=F6 E (zgv c)) (by simp) (by simp) (by decide) (by decide) rfl rfl rfl sB al zev (fun s dep=>(dep 5 10 _ Zk Zk rfl)) cT
   ·exact fun _=>Qq hm sB (by simp) (by decide) (by decide) (fun s W t u dep=>⟨J1 rfl,op_fC 5 rfl rfl (show s.eval (.tmp 1)=Value.pointer (Zs g0 0)from t 1 Zk) ⟨_,rfl,Zr,rfl⟩⟩)
   ·exact fun _=>Qq hm sB (by simp) (by decide) (by decide) (fun s W t u dep=>⟨J1 rfl,ze3 rfl (dep 7 12 _ Zk Zk rfl) (cC W u).2.2.2.2.2.2.2.2.2 ⟨_,rfl,Zr,rfl⟩⟩)
   ·exact fun _=>Qr hm (F:=F9 D d m (zaf c)) (by simp) (by simp) (by decide) (by decide) rfl rfl rfl sB al zjn (fun s dep=>(dep 8 13 _ Zk Zk rfl)) cS
   ·exact fun _=>GG.build hm (by simp) (by decide) rfl rfl (fun s w' f I dep h8=>by
     have e6:=h8 6 11 Zk Zk;have e9:=h8 9 14 Zk Zk;obtain⟨_,_,_,r6,_⟩:=I.1 (6,F6 E (zgv c)) (by simp) _ e6;obtain⟨_,_,_,r9,_⟩:=I.1 (9,F9 D d m (zaf c)) (by simp) _ e9;obtain⟨y,ey,_⟩:=r6 w' fun _ _ _=>rfl
     obtain⟨q,yb,eq,_⟩:=r9 w' fun _ _ _=>rfl
     refine⟨_,by rw[mkC,e6,e9,ey,eq];rfl,fun K hK=>op_buildC rfl (dep 1 6 _ Zk Zk rfl) (dep 3 8 _ Zk Zk rfl) ey eq hK⟩)
   ·exact fun _=>GG.box hm (by simp) (by decide) rfl rfl (fun _=>by kernel_rfl) rfl sB al
   ·exact fun h=>absurd rfl h
  case fin=>
   intro s W f hz am t u J hV I;have e6:=J 6 11 Zk;have e9:=J 9 14 Zk;have aA:=J 10 15 Zk;have aB:=J 11 3 Zk;obtain⟨_,_,_,r6,_⟩:=I.1 (6,F6 E (zgv c)) (by simp) _ e6;obtain⟨_,_,_,r9,_⟩:=I.1 (9,F9 D d m (zaf c)) (by simp) _ e9;obtain⟨y,ey,_⟩:=r6 W fun _ _ _=>rfl
   obtain⟨q,yb,eq,_⟩:=r9 W fun _ _ _=>rfl
   have ev:s.tmps.getD 15 undef=.agg #[Zi 0,.string O,.string N,Zz,Zi y.K,.string y.S,.slice y.pn y.nn y.cn,.slice y.pe y.ne y.ce,.slice y.pp y.np y.cp,.slice q (zaf c).length yb]:=by
    have h:=I.2.2 _ aA;rw[mkC,e6,e9,ey,eq]at h;exact(Y1 h).symm
   obtain⟨k,eb,aC,aD⟩:=XG.done (cs:=[Zi 0,.string O,.string N,Zz,Zi y.K,.string y.S,.slice y.pn y.nn y.cn,.slice y.pe y.ne y.ce,.slice y.pp y.np y.cp,.slice q (zaf c).length yb]) rfl rfl I (ab W u) aB Zk;refine⟨J1 rfl,wp_store_mid 34 (.tmp 3) (.tmp 15) rfl k 0 _ eb ev (zf6 aC _ rfl) Zk (all_oneCell_toArray (J9 rfl (J9 rfl (J9 rfl (J9 rfl (J9 rfl (J9 rfl (J9 rfl (J9 rfl (J9 rfl (J9 rfl zhm))))))))))) ⟨rfl,?_⟩⟩;have aE:ZH (SI W0 (fun W'=>(TyValD W' E y.val (zgv c)/\StRow W' D d m (.slice q (zaf c).length yb) (zaf c))) (W.setCells k 0 [Zi 0,.string O,.string N,Zz,Zi y.K,.string y.S,.slice y.pn y.nn y.cn,.slice y.pe y.ne y.ce,.slice y.pp y.np y.cp,.slice q (zaf c).length yb]).heap.size k (.cells #[Zi 0,.string O,.string N,Zz,Zi y.K,.string y.S,.slice y.pn y.nn y.cn,.slice y.pe y.ne y.ce,.slice y.pp y.np y.cp,.slice q (zaf c).length yb] 34) (W.setCells k 0 [Zi 0,.string O,.string N,Zz,Zi y.K,.string y.S,.slice y.pn y.nn y.cn,.slice y.pe y.ne y.ce,.slice y.pp y.np y.cp,.slice q (zaf c).length yb])):=by
    obtain⟨s1,s2,s3,s4⟩:=aD;refine⟨s1,s2,s3,fun W' ah=>?_⟩;have h:=s4 W' ah;obtain⟨y',q1,q2⟩:=h (6,F6 E (zgv c)) (by simp) _ (by rw[e6]);obtain⟨q',c',q3,q4⟩:=h (9,F9 D d m (zaf c)) (by simp) _ (by rw[e9]);rw[ey]at q1;rw[eq]at q4;rw[<-q1]at q2;exact⟨q2,q4⟩
   generalize W.setCells k 0 [Zi 0,.string O,.string N,Zz,Zi y.K,.string y.S,.slice y.pn y.nn y.cn,.slice y.pe y.ne y.ce,.slice y.pp y.np y.cp,.slice q (zaf c).length yb]=Wn at aE ⊢;rw[JZ hz rfl am t];clear J hV I t aD aC sB al ab Z cC cT cS u e6 e9 aA aB r6 r9 ey eq ev hm;simp only[List.foldl,Option.getD];rw[eb];go_wp2_with fail;go_meet
   case rel=>exact⟨k,y,q,yb,_,rfl,rfl,by rw[J0 ak];exact aE⟩
 case rest=>
 obtain⟨bx,y,qb,yb,Y,rfl,rfl,HS⟩:=hcut;clear OT OS C0;go_upto_region 2 with fail
 go_cut [] (fun wx=>∃Wz:Zw,Wz=wx/\ZH (SI W0 (fun W'=>(TyValD W' E y.val (zgv c)/\StRow W' D d m (.slice qb nb yb) (zaf c))) Wz.heap.size bx (.cells #[Zi A,.string O,.string N,Zz,Zi y.K,.string y.S,.slice y.pn y.nn y.cn,.slice y.pe y.ne y.ce,.slice y.pp y.np y.cp,.slice qb nb yb] 34) Wz))
 case first=>
  have HD:ZH (SI W0 (fun W'=>(TyValD W' E y.val (zgv c)/\StRow W' D d m (.slice qb nb yb) (zaf c))) Y.heap.size bx (.cells #[Zi A,.string O,.string N,Zz,Zi y.K,.string y.S,.slice y.pn y.nn y.cn,.slice y.pe y.ne y.ce,.slice y.pp y.np y.cp,.slice qb nb yb] 34) (Y.setCell ⟨bx,0,none⟩ (Zi A))):=by
   have h:=HS.set (i:=0) (Zi A);simp only[Xf,Xu]at h;exact h
  obtain⟨i1,⟨i2,i3,i4⟩,i5,_⟩:=J0 HS;obtain⟨c0,c1,c2,c3,c4,c5,c6,c7,c8,c9⟩:=U _ i5;have x0:Y.cell? ⟨bx,0,none⟩=some (Zi 0):=by rw[Y0 i1];rfl
  have xf:=YH i1 0;clear i1 i2 i3 i4 i5 HS U HP ac af L Z0;go_wp2_with fail;go_meet
  case rel=>exact⟨_,rfl,(by have h:=J0 HD;rw[show Y.heap.size=(Y.setCell ⟨bx,0,none⟩ (Zi A)).heap.size by simp]at h;exact h)⟩
 case rest=>
 obtain⟨W5,rfl,aq⟩:=hcut;clear HS;go_upto_block 0 with fail
 go_cut [] (fun wx=>∃(q:Zo) (G:Nat) (Wz:Zw),Wz=wx/\ZH (SI W0 (fun W'=>(TyValD W' E y.val (zgv c)/\StRow W' D d m (.slice qb nb yb) (zaf c))/\PaRow W' E (.slice q nq G) (cPs c)) Wz.heap.size bx (.cells #[Zi A,.string O,.string N,.slice q nq G,Zi y.K,.string y.S,.slice y.pn y.nn y.cn,.slice y.pe y.ne y.ce,.slice y.pp y.np y.cp,.slice qb nb yb] 34) Wz))
 case first=>
  clear Z0 af;go_wp2_with fail
  go_loopg [4] nq (fun gk i wq=>∃(k:Nat) (q:Zo) (G:Nat),i=Zi k/\k+gk=nq/\ZH (OG 94 6 (QPa E) W5.heap.size wq (.slice q k G) ((cPs c).take k))/\ZH (SI W0 (fun W'=>(TyValD W' E y.val (zgv c)/\StRow W' D d m (.slice qb nb yb) (zaf c))) W5.heap.size bx (.cells #[Zi A,.string O,.string N,.slice q k G,Zi y.K,.string y.S,.slice y.pn y.nn y.cn,.slice y.pe y.ne y.ce,.slice y.pp y.np y.cp,.slice qb nb yb] 34) wq))
  case atStart=>exact⟨0,none,0,rfl,by omega,OG.nil _ _,aq⟩
  case round=>
   obtain⟨k,q,G,rfl,hk,an,ai⟩:=hrel;obtain⟨i1,⟨i2,i3,i4⟩,i5,_⟩:=J0 ai;have ar:=J3 i5;obtain⟨c0,c1,c2,c3,c4,c5,c6,c7,c8,c9⟩:=U _ i5;have x3:=Y0 i1 3;simp only[List.getElem?_toArray,YN,Xa]at x3;clear i1 i2 i3 i4 i5 aq;by_cases aU:k<nq
   ·have au:(k:Int)<(nq:Int):=by omega
    have av:k<(cPs c).length:=by have:=J0 ad;omega
    obtain⟨g,o,⟨K',S',aF,aG,aH,aI,aJ,ne',aK,aL,aM⟩,rfl,a0,a1,a2⟩:=HP k (cPs c)[k] (by simp[av]);have CL:=J3 (pround ai an av ae (ac k av) (fun V h=>TyValD.below (L V h) a2));obtain⟨X,I⟩:=Ze (⟨(cPs c)[k].1.toArray⟩:Zy)
    rw[<-I]at a0 CL;obtain⟨B,aa⟩:=Ze (fun W=>ZB W0 W/\W.cell? ⟨bx,3,none⟩=some (.slice q k G):Zw->Prop)
    have Z:∀W,ZB W0 W->W.cell? ⟨bx,3,none⟩=some (.slice q k G)->B W:=fun W h1 h2=>by rw[aa];exact⟨h1,h2⟩
    have cQ:∀W,B W->W.cell? ⟨bx,3,none⟩=some (.slice q k G):=fun W h=>by rw[aa]at h;exact h.2
    have cX:∀W,B W->ZK6 W g (o+k*6) (.string X) (Zi K') (.string S') (.slice aF aI aJ) (.slice aG ne' aK) (.slice aH aL aM):=fun W h=>by
     rw[aa]at h;have hw:=L W h.1;obtain⟨x1,x2,x3,x4,x5⟩:=a1.below hw;exact⟨(hw.cell (p:=⟨g,_,none⟩) (J2 a0)).trans a0,x1,x2,x3,x4,x5⟩
    have cG:∀W,B W->W.cell? ⟨g0,3,none⟩=some (.slice (Zs g o) nq cq):=fun W h=>by
     rw[aa]at h;exact(U W h.1).2.2.2.1
    have aN:=Z _ (Jb ar) (by simpa using x3);clear a0 a1 a2 I HP ac ae an ai ar L U ad ak c0 c1 c2 c4 c5 c6 c7 c8 c9;go_wp2_with fail;clear c3 x3;refine zec (n:=48) (z:=19) Zk Zk Zk Zk rfl rfl rfl B (VP (vC6 g0 bx g o k q G nq cq X K' S' aF aG aH aI aJ ne' aK aL aM)) (XL wr.drew (PR W0 (fun W'=>TyValD W' E y.val (zgv c)/\StRow W' D d m (.slice qb nb yb) (zaf c)) W5.heap.size bx A O N q k G y qb nb yb (cPs c) X) X k) aN ⟨fun _=>rfl,fun _ h=>nomatch h⟩ ?each ?fin
    case each=>
     refine⟨?_,?_,?_,?_,?_,?_,?_,?_,?_,?_,?_,?_,?_,?_,?_,?_,?_,?_,?_,?_,trivial⟩
     ·exact fun _=>Qs (by decide) (fun s W t u dep=>⟨J1 rfl,op_fC 3 rfl rfl (show s.eval (.tmp 3)=Value.pointer (Zs bx 0)from t 3 Zk) ⟨_,rfl,rfl,rfl⟩⟩)
     ·exact fun _=>Qs (by decide) (fun s W t u dep=>⟨J1 rfl,zcq rfl (dep 0 28 _ Zk Zk rfl) (cQ W u) ⟨_,rfl,rfl,rfl⟩⟩)
     ·exact fun _=>Qs (by decide) (fun s W t u dep=>⟨J1 rfl,op_fC 3 rfl rfl (show s.eval (.tmp 1)=Value.pointer (Zs g0 0)from t 1 Zk) ⟨_,rfl,rfl,rfl⟩⟩)
     ·exact fun _=>Qs (by decide) (fun s W t u dep=>⟨J1 rfl,zcq rfl (dep 2 30 _ Zk Zk rfl) (cG W u) ⟨_,rfl,rfl,rfl⟩⟩)
     ·exact fun _=>Qs (by decide) (fun s W t u dep=>⟨J1 rfl,Jp rfl (show s.eval (.tmp 4)=Zi (k:Int)from t 4 Zk) ⟨_,rfl,rfl,rfl⟩⟩)
     ·exact fun _=>Qs (by decide) (fun s W t u dep=>⟨J1 rfl,zda rfl (dep 3 31 _ Zk Zk rfl) (dep 4 32 _ Zk Zk rfl) au ⟨_,rfl,rfl,rfl⟩⟩)
     ·exact fun _=>Qs (by decide) (fun s W t u dep=>⟨J1 rfl,zgt rfl (dep 5 33 _ Zk Zk rfl) ⟨_,rfl,rfl,rfl⟩⟩)
     ·exact fun _=>Qs (by decide) (fun s W t u dep=>⟨J1 rfl,zaz rfl (dep 6 34 _ Zk Zk rfl) (cX W u).1 ⟨_,rfl,rfl,rfl⟩⟩)
     ·exact fun _=>Qs (by decide) (fun s W t u dep=>⟨J1 rfl,op_fC 3 rfl rfl (show s.eval (.tmp 1)=Value.pointer (Zs g0 0)from t 1 Zk) ⟨_,rfl,rfl,rfl⟩⟩)
     ·exact fun _=>Qs (by decide) (fun s W t u dep=>⟨J1 rfl,zcq rfl (dep 8 36 _ Zk Zk rfl) (cG W u) ⟨_,rfl,rfl,rfl⟩⟩)
     ·exact fun _=>Qs (by decide) (fun s W t u dep=>⟨J1 rfl,Jp rfl (show s.eval (.tmp 4)=Zi (k:Int)from t 4 Zk) ⟨_,rfl,rfl,rfl⟩⟩)
     ·exact fun _=>Qs (by decide) (fun s W t u dep=>⟨J1 rfl,zda rfl (dep 9 37 _ Zk Zk rfl) (dep 10 38 _ Zk Zk rfl) au ⟨_,rfl,rfl,rfl⟩⟩)
     ·exact fun _=>Qs (by decide) (fun s W t u dep=>⟨J1 rfl,zh1 rfl (dep 11 39 _ Zk Zk rfl) ⟨_,rfl,rfl,rfl⟩⟩)
     ·exact fun _=>Qs (by decide) (fun s W t u dep=>⟨J1 rfl,zc8 rfl (dep 12 40 _ Zk Zk rfl) (cX W u).2 ⟨_,rfl,rfl,rfl⟩⟩)
     ·exact fun _=>LG.call rfl rfl rfl Zk Zk Zk (fun s dep=>(dep 13 41 _ Zk Zk rfl)) CL (fun _ _ _ _ _ h=>Z _ h.1 h.2.1)
     ·exact fun _=>LG.build rfl rfl rfl Zk Zk Zk (fun s dep=>(dep 7 35 _ Zk Zk rfl))
     ·exact fun _=>LG.lay rfl rfl rfl Zk Zk Zk Zk (fun _ _ _ _ _ h=>Z _ (zax h.1 (sal1 _ _)) h.2.2.1)
     ·exact fun _=>LG.app rfl rfl rfl rfl Zk Zk Zk Zk (fun s dep=>(dep 1 29 _ Zk Zk rfl)) (fun _ _ _ _ _ h=>⟨h.2.2.2.1,Z _ h.2.2.2.2.1 h.2.2.2.2.2.1⟩)
     ·exact fun _=>Qs (by decide) (fun s W t u dep=>⟨J1 rfl,op_fC 3 rfl rfl (show s.eval (.tmp 3)=Value.pointer (Zs bx 0)from t 3 Zk) ⟨_,rfl,rfl,rfl⟩⟩)
     ·exact fun h=>absurd rfl h
    case fin=>
     intro s W f hz am t u J hV I;have f14:=J 14 42 Zk;obtain⟨w1,z,g',cap,W4,ez,⟨_,_,_,_,r5,r6,r7,r8,r9⟩,q1,q2,q3⟩:=I.2 _ f14;obtain⟨q6,q7,q5⟩:=q3 _ (J 16 44 Zk);obtain⟨rfl,er⟩:=q5 _ (J 17 45 Zk);have ep:s.tmps.getD 46 undef=.pointer (Zs bx 3):=VP.at (W:=W) (hV 18 _ (J 18 46 Zk)) rfl;refine⟨J1 rfl,op_storePs rfl rfl ep er r6 r7 ⟨rfl,?_⟩⟩;have H8:=J3 r8;have H9:=J3 r9;generalize W.setCell ⟨bx,3,none⟩ (.slice (Zs g' 0) (k+1) cap)=Wn at H8 H9 ⊢;rw[JZ hz rfl am t];clear J hV I t r5 r6 r7 r8 r9 q1 q2 q3 q5 q6 q7 er ep ez f14 Z cQ cX cG aN u CL;simp only[List.foldl,Option.getD];generalize s.tmps.getD 28 undef=v28;generalize s.tmps.getD 29 undef=v29;generalize s.tmps.getD 30 undef=v30;generalize s.tmps.getD 31 undef=v31;generalize s.tmps.getD 32 undef=v32;generalize s.tmps.getD 33 undef=v33;generalize s.tmps.getD 34 undef=v34;generalize s.tmps.getD 35 undef=v35;generalize s.tmps.getD 36 undef=v36;generalize s.tmps.getD 37 undef=v37;generalize s.tmps.getD 38 undef=v38;generalize s.tmps.getD 39 undef=v39;generalize s.tmps.getD 40 undef=v40;generalize s.tmps.getD 41 undef=v41;generalize s.tmps.getD 42 undef=v42;generalize s.tmps.getD 43 undef=v43;generalize s.tmps.getD 44 undef=v44;generalize s.tmps.getD 45 undef=v45;generalize s.tmps.getD 46 undef=v46;clear hz am;simp only[Act.put,Xf,Xu,List.set_cons_succ];go_wp2_with fail;go_roundg (nq-(k+1))
     case measure=>omega
     case rel=>exact⟨k+1,_,_,by go_num,by omega,H8,H9⟩
   ·obtain rfl:k=nq:=by omega
    have HM:=J3 (ai.more (fun W' ah=>QPa.row an ah));rw[show(cPs c).take k=cPs c by rw[J0 ad,Yr]]at HM;have au:¬(k:Int)<(k:Int):=by omega
    clear ai an ar HP ac ae L U ad ak;go_wp2_with fail;go_meet
    case rel=>exact⟨q,G,_,rfl,HM⟩
 case rest=>
 obtain⟨q,G,W7,rfl,aO⟩:=hcut;clear aq HP ac ae;obtain⟨i1,⟨i2,i3,i4⟩,i5,i6⟩:=J0 aO;obtain⟨z1,z2,z3⟩:=J0 Z0;have aw:W7.heap[g1]?=some (.cells #[Zi 0,.string ⟨#[]⟩,.string ⟨#[]⟩,Zz,Zi 0,.string ⟨#[]⟩,Zz,Zz,Zz,Zz] 34):=(i5.block _ z3).trans z1;have R7:W7.rangeAt bx 0 [Zi A,.string O,.string N,.slice q nq G,Zi y.K,.string y.S,.slice y.pn y.nn y.cn,.slice y.pe y.ne y.ce,.slice y.pp y.np y.cp,.slice qb nb yb]:=fun j v hv=>by rw[Y0 i1,X3];simpa using hv
 have T7:W7.there g1 0 (#[Zi A,.string O,.string N,.slice q nq G,Zi y.K,.string y.S,.slice y.pn y.nn y.cn,.slice y.pe y.ne y.ce,.slice y.pp y.np y.cp,.slice qb nb yb]:Array Value).size:=zf6 aw _ rfl;obtain⟨s1,s2,s3,s4⟩:=zg8 (cs:=[Zi A,.string O,.string N,.slice q nq G,Zi y.K,.string y.S,.slice y.pn y.nn y.cn,.slice y.pe y.ne y.ce,.slice y.pp y.np y.cp,.slice qb nb yb]) Zk aw;have aP:=J3 s1;have aQ:ZH (ZB w (W7.setCells g1 0 [Zi A,.string O,.string N,.slice q nq G,Zi y.K,.string y.S,.slice y.pn y.nn y.cn,.slice y.pe y.ne y.ce,.slice y.pp y.np y.cp,.slice qb nb yb])):=s4 w z2 (L _ i5);have aR:ZH (∀W':Zw,(∀j,w.heap.size<=j->j<(W7.setCells g1 0 [Zi A,.string O,.string N,.slice q nq G,Zi y.K,.string y.S,.slice y.pn y.nn y.cn,.slice y.pe y.ne y.ce,.slice y.pp y.np y.cp,.slice qb nb yb]).heap.size->W'.heap[j]?=(W7.setCells g1 0 [Zi A,.string O,.string N,.slice q nq G,Zi y.K,.string y.S,.slice y.pn y.nn y.cn,.slice y.pe y.ne y.ce,.slice y.pp y.np y.cp,.slice qb nb yb]).heap[j]?)->CoIs W' E D d m ⟨A,O,N,q,nq,G,y,qb,nb,yb⟩ c):=fun W' ah=>by
  have aV:=H0.size;obtain⟨⟨r1,r2⟩,r3⟩:=i6 W' fun j j1 j2 j3=>by rw[ah j (by omega) (by rw[s3];exact j2),s2 j (by omega)]
  obtain⟨b1,b2,b3⟩:=J0 af;exact⟨b1,b2,b3,r3,r1,r2⟩
 clear i1 i2 i3 i4 i5 i6 z1 z2 z3 s1 s2 s3 s4 aw aO Z0 L U af ad ak H0;go_wp2_with (first
  | ((with_reducible refine wpList_load_mid ?_ 34 (.tmp 3) ?_ bx 0 ?_ _ _ R7 Tryz.underlying34 ?_ ?_ ?_);(rfl);(rfl);(rfl);(rfl);(kernel_rfl))
  | ((with_reducible refine wpList_store_mid ?_ 34 (.tmp 2) (.tmp 47) ?_ g1 0 #[Zi A,.string O,.string N,.slice q nq G,Zi y.K,.string y.S,.slice y.pn y.nn y.cn,.slice y.pe y.ne y.ce,.slice y.pp y.np y.cp,.slice qb nb yb] ?_ ?_ T7 ?_ ?_ ?_);(rfl);(rfl);(rfl);(rfl);(kernel_rfl);(exact all_oneCell_toArray (J9 rfl (J9 rfl (J9 rfl (J9 rfl (J9 rfl (J9 rfl (J9 rfl (J9 rfl (J9 rfl (J9 rfl zhm)))))))))));(rw[show(#[Zi A,.string O,.string N,.slice q nq G,Zi y.K,.string y.S,.slice y.pn y.nn y.cn,.slice y.pe y.ne y.ce,.slice y.pp y.np y.cp,.slice qb nb yb]:Array Value).toList=[Zi A,.string O,.string N,.slice q nq G,Zi y.K,.string y.S,.slice y.pn y.nn y.cn,.slice y.pe y.ne y.ce,.slice y.pp y.np y.cp,.slice qb nb yb]from rfl]);(generalize W7.setCells g1 0 [Zi A,.string O,.string N,.slice q nq G,Zi y.K,.string y.S,.slice y.pn y.nn y.cn,.slice y.pe y.ne y.ce,.slice y.pp y.np y.cp,.slice qb nb yb]=Wf at aP aQ aR ⊢)))
 have M:=J0 aP;have CF:ZL10 Wf g1 (Zi A) (.string O) (.string N) (.slice q nq G) (Zi y.K) (.string y.S) (.slice y.pn y.nn y.cn) (.slice y.pe y.ne y.ce) (.slice y.pp y.np y.cp) (.slice qb nb yb):=⟨by rw[Y0 M];rfl,by rw[Y0 M];rfl,by rw[Y0 M];rfl,by rw[Y0 M];rfl,by rw[Y0 M];rfl,by rw[Y0 M];rfl,by rw[Y0 M];rfl,by rw[Y0 M];rfl,by rw[Y0 M];rfl,by rw[Y0 M];rfl⟩
 obtain⟨c0,c1,c2,c3,c4,c5,c6,c7,c8,c9⟩:=CF;exact Yi (v:=C10.val ⟨A,O,N,q,nq,G,y,qb,nb,yb⟩) (by simp[results,Tryz.results31,go_sem,c0,c1,c2,c3,c4,c5,c6,c7,c8,c9]) rfl ⟨⟨⟨A,O,N,q,nq,G,y,qb,nb,yb⟩,rfl,aR⟩,aQ⟩
end Go.Proofs.YtdcbglnhhbmpgaaGreatDoor
