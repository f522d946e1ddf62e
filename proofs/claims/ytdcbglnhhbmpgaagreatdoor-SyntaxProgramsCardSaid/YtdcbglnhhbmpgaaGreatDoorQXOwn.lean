import Derived.Test.YtdcbglnhhbmpgaaGreatDoorQOwnG
import Derived.Test.YtdcbglnhhbmpgaaGreatDoorQTokensPure
set_option maxHeartbeats 1000000
set_option maxRecDepth 100000
namespace Go.Proofs.YtdcbglnhhbmpgaaGreatDoor
open Go Go.RowKit Lx
abbrev V7:Type:=Value×Value×Value×Value×Value×Value×Value
def za1 (u:V7):List Value:=[u.1,u.2.1,u.2.2.1,u.2.2.2.1,u.2.2.2.2.1,u.2.2.2.2.2.1,u.2.2.2.2.2.2]
def val7 (u:V7):Value:=.agg #[u.1,u.2.1,u.2.2.1,u.2.2.2.1,u.2.2.2.2.1,u.2.2.2.2.2.1,u.2.2.2.2.2.2]
theorem zkg {u:V7} {a b c d e f g:Value} (h:val7 u=.agg #[a,b,c,d,e,f,g]):u.1=a/\u.2.1=b/\u.2.2.1=c/\u.2.2.2.1=d/\u.2.2.2.2.1=e/\u.2.2.2.2.2.1=f/\u.2.2.2.2.2.2=g:=by
 have j:#[u.1,u.2.1,u.2.2.1,u.2.2.2.1,u.2.2.2.2.1,u.2.2.2.2.2.1,u.2.2.2.2.2.2]=#[a,b,c,d,e,f,g]:=by
  unfold val7 at h;injection h
 have r:[u.1,u.2.1,u.2.2.1,u.2.2.2.1,u.2.2.2.2.1,u.2.2.2.2.2.1,u.2.2.2.2.2.2]=[a,b,c,d,e,f,g]:=congrArg Array.toList j;simpa using r
theorem zgr:∀(es:List V7) (j i:Nat) (u:V7) (c:Value),es[j]?=some u->(za1 u)[i]?=some c->(es.flatMap za1)[j*7+i]?=some c
 | [],j,i,u,c,h,_=>by simp at h
 | x::r,0,i,u,c,h,g=>by
  simp at h;subst h;have s:i<(za1 x).length:=(YI.1 g).1;rw[X6,show 0*7+i=i by omega,YC s];exact g
 | x::r,j+1,i,u,c,h,g=>by
  have t:=zgr r j i u c (by simpa using h) g;rw[X6,Yv (by simp[za1];omega),show(j+1)*7+i-(za1 x).length=j*7+i by simp[za1];omega];exact t
def ExCapD (W:Zw) (D:Nat):(d:Nat)->Value->Ex D d->Prop
 | 0,_,_=>False
 | d+1,v,x=>∃a b c e f g vp:Value,v=.agg #[a,b,c,e,f,g,vp]/\ExCap W D d vp (xPs x)
theorem ExCapD.below {w w':Zw} {D:Nat} (j:ZB w w'):∀{d:Nat} {v:Value} {x:Ex D d},ExCapD w D d v x->ExCapD w' D d v x
 | 0,_,_,h=>h
 | d+1,_,_,⟨a,b,c,e,f,g,vp,h,r⟩=>⟨a,b,c,e,f,g,vp,h,ExCap.below j d r⟩
def EV (W:Zw) (D d:Nat) (v:Value) (x:Ex D d):Prop:=ExValD W D d v x/\ExCapD W D d v x
theorem EV.below {w w':Zw} {D d:Nat} {v:Value} {x:Ex D d} (h:EV w D d v x) (c:ZB w w'):EV w' D d v x:=⟨ExValD.below c h.1,ExCapD.below c h.2⟩
def OExs (B:Nat) (W:Zw) (v:Value) (D d:Nat) (c:List (Ex D d)):Prop:=
 ∃es:List V7,es.length=c.length/\W.ownsRow B 62 7 v c.length (es.flatMap za1)/\∀(j:Nat) (u:V7) (t:Ex D d),es[j]?=some u->c[j]?=some t->Fr B v.ownBlock W (fun W'=>EV W' D d (val7 u) t)
theorem OExs.nil (B:Nat) (W:Zw) (D d:Nat):OExs B W (Zz) D d []:=⟨[],rfl,YU _ _ _ _,fun j u t h=>by simp at h⟩
theorem OExs.row {B:Nat} {W:Zw} {v:Value} {D:Nat} {c:List (Ex D 0)}:OExs B W v D 0 c->c=[]:=fun _=>by
 cases c with
 | nil=>rfl
 | cons t _=>exact nomatch t
theorem OExs.rows {B:Nat} {W:Zw} {v:Value} {D:Nat}:∀{d:Nat} {s:List (Ex D d)},OExs B W v D d s->∀W':Zw,(∀j,B<=j->j<W.heap.size->W'.heap[j]?=W.heap[j]?)->ExRow W' D d v s
 | 0,s,h,W',_=>by
  obtain rfl:=h.row;obtain⟨es,_,u,_⟩:=h;obtain⟨p,c,rfl,_⟩:=Jh u;exact⟨p,c,rfl⟩
 | d+1,s,⟨es,hl,u,he⟩,W',G=>by
  obtain⟨p,c,rfl,hc⟩:=Jh u;refine⟨p,c,rfl,fun j t I=>?_⟩;have hj:j<s.length:=(YI.1 I).1;have hu:es[j]?=some es[j]:=by simp
  have J:=(he j _ t hu I W' fun i L M _=>G i L M).1;obtain⟨pt,pn,pp,ct,cn,cp,e,U,V,Y⟩:=J;obtain⟨Z,q1,q2,q3,q4,q5,q6⟩:=zkg e;rcases u.2 with⟨_,h0⟩|⟨g,cap,cur,e3,hb,hg,_⟩
  ·omega
  ·injection e3 with e4 _ _
   subst e4;have aa:=(Y8.1 hg).1;have r:∀i x,(za1 es[j])[i]?=some x->W'.cell? ⟨g,0+j*7+i,none⟩=some x:=fun i x hx=>by
    rw[zfn (G g hb aa),X3];have:=u.cells (g:=g) rfl _ _ (zgr es j i _ x hu hx);rwa[addr_add]at this
   exact⟨g,0,_,_,_,rfl,(by have:=r 0 _ rfl;rw[Z]at this;simpa using this),(by have:=r 1 _ rfl;rw[q1]at this;exact this),(by have:=r 2 _ rfl;rw[q2]at this;exact this),(by have:=r 3 _ rfl;rw[q3]at this;exact this),(by have:=r 4 _ rfl;rw[q4]at this;exact this),(by have:=r 5 _ rfl;rw[q5]at this;exact this),(by have:=r 6 _ rfl;rw[q6]at this;exact this),U,V,Y⟩
theorem OExs.caps {B:Nat} {W:Zw} {v:Value} {D:Nat}:∀{d:Nat} {h:List (Ex D d)},OExs B W v D d h->∀W':Zw,(∀j,B<=j->j<W.heap.size->W'.heap[j]?=W.heap[j]?)->ExCap W' D d v h
 | 0,_,_,_,_=>trivial
 | d+1,h,⟨es,hl,r,he⟩,W',s=>by
  obtain⟨p,c,rfl,x⟩:=Jh r;refine⟨p,c,rfl,x,fun j t u=>?_⟩;have hj:j<h.length:=(YI.1 u).1;have hu:es[j]?=some es[j]:=by simp
  obtain⟨a0,a1,a2,a3,a4,a5,vp,e,G⟩:=(he j _ t hu u W' fun i I J _=>s i I J).2;obtain⟨_,_,_,_,_,_,L⟩:=zkg e;rcases r.2 with⟨_,h0⟩|⟨g,cap,cur,M,U,V,_⟩
  ·omega
  ·injection M with Y _ _
   subst Y;have Z:=(Y8.1 V).1;have h6:W'.cell? ⟨g,0+j*7+6,none⟩=some vp:=by
    rw[zfn (s g U Z),X3];have:=r.cells (g:=g) rfl _ _ (zgr es j 6 _ _ hu (show(za1 es[j])[6]?=some vp by rw[<-L];rfl));rwa[addr_add]at this
   exact⟨g,0,vp,rfl,h6,G⟩
theorem info_ex:(Tryz.prog.info? 62).map (fun i=>(i.zero,i.size,i.bytes))=some (some (.agg #[Zi 0,Zi 0,Zi 0,.string ⟨#[]⟩,Zz,Zz,Zz]),7,112):=by kernel_rfl
theorem append_exs {B D d:Nat} {wr c:Zw} {v:Value} {r:List (Ex D d)} {t:Ex D d} {u:V7} (h:OExs B wr v D d r) (hB:B<=wr.heap.size) (U:ZB wr c) (hu:∀W':Zw,(∀j,wr.heap.size<=j->j<c.heap.size->W'.heap[j]?=c.heap[j]?)->EV W' D d (val7 u) t) (h1:∀x∈za1 u,x.oneCell'=true) (hl:r.length<=1000000) :
  ∃(g cap:Nat) (G:Zw),(Builtin.append_ #[60,60] 60 #[v,.slice (Zs c.heap.size 0) 1 1]).run Tryz.prog (c.alloc (.cells #[u.1,u.2.1,u.2.2.1,u.2.2.2.1,u.2.2.2.2.1,u.2.2.2.2.2.1,u.2.2.2.2.2.2] 62))=.ok (.slice (Zs g 0) (r.length+1) cap) G /\
   OExs B G (.slice (Zs g 0) (r.length+1) cap) D d (r++[t])/\c.heap.size<=G.heap.size/\(∀j,j<c.heap.size->some j≠v.ownBlock->G.heap[j]?=c.heap[j]?)/\Below B wr G:=by
 obtain⟨es,aa,ho,he⟩:=h;obtain⟨i0,V,ad,ae,af⟩:=Xx info_ex;have ag:=U.size;have ah:c.ownsRow B 62 7 v r.length (es.flatMap za1):=ho.kept (Je U) (by cases v.ownBlock <;> simp);obtain⟨g,cap,G,hr,ai,Y,aj,_⟩:=run_append_lies (P:=Tryz.prog) (c.alloc (.cells #[u.1,u.2.1,u.2.2.1,u.2.2.2.1,u.2.2.2.2.1,u.2.2.2.2.2.1,u.2.2.2.2.2.2] 62)) 60 60 B 62 i0 (.agg #[Zi 0,Zi 0,Zi 0,.string ⟨#[]⟩,Zz,Zz,Zz]) 7 112 Tryz.underlying60 V ad ae af rfl (by decide) v r.length _
  (ah.alloc _) ⟨c.heap.size,0,none⟩ 1 1 (za1 u) rfl
  (fun j x hx=>by rw[addr_add,Ya _ _ _ _ rfl,<-hx];simp[za1]) h1 (by omega) (by unfold maxLen;omega) (by omega) (by simp;omega) (c.heap.size+1) (by simp)
 have ab:∀k,v.ownBlock=some k->B<=k/\k<wr.heap.size:=ho.lt
 have an:c.heap.size+1<=G.heap.size:=by have:=Y.size;simpa using this
 have Z:∀j,j<c.heap.size->some j≠v.ownBlock->G.heap[j]?=c.heap[j]?:=fun j I L=>(Y.block j (by simp;omega) L).trans (((Yu c.heap.size c).alloc (Y5 _) _).block j I)
 have ac:(some g=v.ownBlock)∨∀g2,some g=some g2->c.heap.size<=g2:=by
  rcases aj with e|e
  ·exact .inl e.symm
  ·exact .inr fun g2 M=>by cases M;omega
 refine⟨g,cap,G,hr,⟨es++[u],by simp[aa],by simpa[za1,YO]using ai,fun j x s I J=>?_⟩,by omega,Z,?_⟩
 ·show Fr B (some g) G _;rcases YW j r.length with ak|al
  ·rw[YC (by omega)]at I;rw[YC ak]at J;refine(he j x s I J).step (by omega) (fun i V L=>?_) ?_
   ·rw[Z i (by omega) L];exact U.block i V
   ·rcases ac with e|e
    ·exact .inl e
    ·exact .inr fun g2 M=>Yh ag (e g2 M)
  ·rw[Yv (by omega)]at I;rw[Yv al]at J;have ej:j-r.length=0:=by
    rcases X1 (j-r.length)with e|e
    ·exact e
    ·rw[X9 (by simp;omega)]at J;cases J
   rw[ej]at J;rw[aa,ej]at I;simp at I J;subst I J;intro W' am;refine hu W' fun i h2 h3=>?_
   have L:some i≠v.ownBlock:=fun e=>by have:=(ab i e.symm).2;omega
   rw[am i (by omega) (by omega) ?_,Z i h3 L];rcases ac with e|e
   ·rw[e];exact L
   ·intro M;have:=e i M.symm;omega
 ·refine((U.mono hB).alloc (by omega) _).grown Y (by simp;omega) fun k ek=>(ab k ek).1
theorem val7_form:∀{D d:Nat} {W:Zw} {u:V7} {x:Ex D d},ExValD W D d (val7 u) x->∃(J L M:Int) (U:Zy) (rt V Y:Zo) (m1 Z m2 y2 m3 y3:Nat),u=(Zi J,Zi L,Zi M,.string U,.slice rt m1 Z,.slice V m2 y2,.slice Y m3 y3)
 | _,0,_,_,_,h=>h.elim
 | D,d+1,W,(u0,u1,u2,u3,u4,u5,u6),t,h=>by
  obtain⟨pt,pn,pp,ct,cn,cp,e,_⟩:=h;obtain⟨c,g,j,r,s,G,I⟩:=zkg e;dsimp only at c g j r s G I;subst c g j r s G I;exact⟨_,_,_,_,_,_,_,_,_,_,_,_,_,rfl⟩
abbrev zj5 (A K N:Int) (S:Zy) (vt vn vp:Value):Obj:=.cells #[Zi A,Zi K,Zi N,.string S,vt,vn,vp] 62
abbrev ownX0:Obj:=zj5 0 0 0 ⟨#[]⟩ (Zz) (Zz) (Zz)
def OwnXAt (D d:Nat):Prop:=∀(x:Ex D d) (v:Value) (w:Zw),ExValD w D d v x->szX D d x<=1000000 ->
 Zg 97 #[v] w fun e w'=>(∃u:V7,e=.returned (val7 u)/\(∀x∈za1 u,x.oneCell'=true)/\∀W':Zw,(∀j,w.heap.size<=j->j<w'.heap.size->W'.heap[j]?=w'.heap[j]?)->EV W' D d (val7 u) x)/\ZB w w'
def XI (w:Zw) (c:Obj) (F:Zw->Prop) (n:Nat) (g:Obj) (W:Zw):Prop:=
 W.heap[w.heap.size]?=some c/\W.heap[w.heap.size+1]?=some ownX0/\W.heap[w.heap.size+2]?=some g/\ZB w W/\(w.heap.size+3<=n/\n<=W.heap.size)/\∀W':Zw,(∀j,w.heap.size+3<=j->j<n->W'.heap[j]?=W.heap[j]?)->F W'
theorem XI.step {w W c:Zw} {r t xO2:Obj} {F:Zw->Prop} {n:Nat} (h:XI w r F n t W) (u:c.heap[w.heap.size+2]?=some xO2) (x:ZB w c) (G:n<=c.heap.size) (g:∀j,j<n->j≠w.heap.size+2->c.heap[j]?=W.heap[j]?):XI w r F n xO2 c:=by
 obtain⟨I,J,Y,Z,⟨L,h6⟩,M⟩:=h;exact⟨(g _ (by omega) (by omega)).trans I,(g _ (by omega) (by omega)).trans J,u,x,⟨L,G⟩,fun W' U=>M W' fun j V s=>(U j V s).trans (g j s (by omega))⟩
theorem XI.more {w W:Zw} {c g:Obj} {F G:Zw->Prop} {n:Nat} (h:XI w c F n g W) (u:∀W':Zw,(∀j,n<=j->j<W.heap.size->W'.heap[j]?=W.heap[j]?)->G W'):XI w c (fun W'=>F W'/\G W') W.heap.size g W:=by
 obtain⟨x,I,J,L,⟨M,U⟩,V⟩:=h;exact⟨x,I,J,L,⟨Yh M U,Y5 _⟩,fun W' r=>⟨V W' fun j s t=>r j s (by omega),u W' fun j s t=>r j (by omega) t⟩⟩
section
variable {w wr:Zw} {F:Zw->Prop} {n:Nat} {A K N:Int} {S:Zy} {q:Zo} {k cq:Nat} {vn vp v:Value} {pt pn pp:Zo} {nt ct nn cn np cp:Nat}
theorem round_ty {D:Nat} {h:List (Ty D)} (hX:XI w (zj5 A K N S (.slice pt nt ct) (.slice pn nn cn) (.slice pp np cp)) F n (zj5 A K N S (.slice q k cq) vn vp) wr) (HO:OTys n wr (.slice q k cq) D (h.take k)) (ae:k<h.length) (hl:h.length<=1000000)
  (hC:∀W,ZB w W->Zg 56 #[v] W fun e w'=>(∃u:V5,e=.returned (val5 u)/\(∀x∈zch u,x.oneCell'=true)/\∀W':Zw,(∀j,W.heap.size<=j->j<w'.heap.size->W'.heap[j]?=w'.heap[j]?)->TyValD W' D (val5 u) h[k])/\ZB W w') :
  Zg 56 #[v] wr.drew fun e w1=>∃(r:Int) (s:Zy) (t G I:Zo) (m1 J m2 L m3 M:Nat),e=.returned (.agg #[Zi r,.string s,.slice t m1 J,.slice G m2 L,.slice I m3 M]) /\
   w1.cell? ⟨w.heap.size+1+1,4,none⟩=some (.slice q k cq)/\w1.cell? ⟨w.heap.size,4,none⟩=some (.slice pt nt ct)/\(w1.alloc (ownO r s (.slice t m1 J) (.slice G m2 L) (.slice I m3 M))).cell? ⟨w.heap.size+1+1,4,none⟩=some (.slice q k cq) /\
   ∃(g cap:Nat) (c:Zw),(Builtin.append_ #[29,29] 29 #[.slice q k cq,.slice (Zs w1.heap.size 0) 1 1]).run Tryz.prog (w1.alloc (ownO r s (.slice t m1 J) (.slice G m2 L) (.slice I m3 M)))=.ok (.slice (Zs g 0) (k+1) cap) c /\
    c.cell? ⟨w.heap.size+1+1,4,none⟩=some (.slice q k cq)/\c.frozen? ⟨w.heap.size+1+1,4,none⟩=false /\
    OTys n (c.setCell ⟨w.heap.size+1+1,4,none⟩ (.slice (Zs g 0) (k+1) cap)) (.slice (Zs g 0) (k+1) cap) D (h.take (k+1)) /\
    XI w (zj5 A K N S (.slice pt nt ct) (.slice pn nn cn) (.slice pp np cp)) F n (zj5 A K N S (.slice (Zs g 0) (k+1) cap) vn vp) (c.setCell ⟨w.heap.size+1+1,4,none⟩ (.slice (Zs g 0) (k+1) cap)):=by
 obtain⟨i1,i2,i3,hb,⟨i5,i6⟩,i7⟩:=id hX;refine(hC wr.drew (Jb hb)).mono ?_;rintro e w1 ⟨⟨u,rfl,af,aa⟩,ag⟩;have U:ZB wr w1:=JO ag;have ak:=U.size;obtain⟨r,s,t,G,I,m1,J,m2,L,m3,M,rfl⟩:=zmh (aa w1 fun _ _ _=>rfl);have Y:=(U.block _ (by omega)).trans i3;have ah:=(U.block _ (by omega)).trans i1;obtain⟨g,cap,c,E,ab,al,ac,ai⟩:=zjk HO i6 U aa af (by rw[YE];omega);rw[YE,Xz (by omega)]at E ab;have ad:∀j,(Value.slice q k cq).ownBlock=some j->n<=j:=fun j V=>by
  obtain⟨am,_,ho,_⟩:=HO;exact(ho.lt j V).1
 have Z:c.heap[w.heap.size+2]?=some (zj5 A K N S (.slice q k cq) vn vp):=(ac _ (by omega) (fun V=>by have:=ad _ V.symm;omega)).trans Y;refine⟨r,s,t,G,I,m1,J,m2,L,m3,M,rfl,by rw[Y0 Y];rfl,by rw[Y0 ah];rfl,?_,g,cap,c,E,by rw[Y0 Z];rfl,YH Z 4,?_,hX.step ?_ ?_ ?_ ?_⟩
 ·rw[Y0 ((zc2 w1 _ _ (by omega)).trans Y)];rfl
 ·rw[zbb ae];exact ab.move (by simp) fun j hj=>Ja (by omega)
 ·rw[zhk Z];rfl
 ·exact(hb.trans (ai.mono (by omega))).setCell (p:=⟨w.heap.size+1+1,4,none⟩) (by show w.heap.size<=w.heap.size+1+1;omega) _
 ·simp;omega
 ·intro j hj aj;rw[Ja aj,ac j (by omega) (fun V=>by have:=ad _ V.symm;omega),U.block j (by omega)]
theorem OExs.move {B:Nat} {W W':Zw} {v:Value} {D d:Nat} {c:List (Ex D d)} (h:OExs B W v D d c) (hs:W'.heap.size=W.heap.size) (s:∀j,B<=j->W'.heap[j]?=W.heap[j]?):OExs B W' v D d c:=by
 obtain⟨es,J,x,he⟩:=h;refine⟨es,J,⟨x.1,?_⟩,fun j u t L M U V=>he j u t L M U fun i G h4 Y=>?_⟩
 ·rcases x.2 with Z|⟨g,cap,cur,e,I,hg,r⟩
  ·exact .inl Z
  ·exact .inr ⟨g,cap,cur,e,I,(s g I).trans hg,r⟩
 ·rw[V i G (by omega) Y,s i G]
theorem round_ex {D d:Nat} {vt:Value} {xs:List (Ex D d)} (hX:XI w (zj5 A K N S (.slice pt nt ct) (.slice pn nn cn) (.slice pp np cp)) F n (zj5 A K N S vt vn (.slice q k cq)) wr) (HO:OExs n wr (.slice q k cq) D d (xs.take k)) (af:k<xs.length) (hl:xs.length<=1000000)
  (hC:∀W,ZB w W->Zg 97 #[v] W fun e w'=>(∃u:V7,e=.returned (val7 u)/\(∀x∈za1 u,x.oneCell'=true)/\∀W':Zw,(∀j,W.heap.size<=j->j<w'.heap.size->W'.heap[j]?=w'.heap[j]?)->EV W' D d (val7 u) xs[k])/\ZB W w') :
  Zg 97 #[v] wr.drew fun e w1=>∃(h r s:Int) (t:Zy) (G I J:Zo) (m1 L m2 M m3 U:Nat),e=.returned (.agg #[Zi h,Zi r,Zi s,.string t,.slice G m1 L,.slice I m2 M,.slice J m3 U]) /\
   w1.cell? ⟨w.heap.size+1+1,6,none⟩=some (.slice q k cq)/\w1.cell? ⟨w.heap.size,6,none⟩=some (.slice pp np cp)/\(w1.alloc (zj5 h r s t (.slice G m1 L) (.slice I m2 M) (.slice J m3 U))).cell? ⟨w.heap.size+1+1,6,none⟩=some (.slice q k cq) /\
   ∃(g cap:Nat) (c:Zw),(Builtin.append_ #[60,60] 60 #[.slice q k cq,.slice (Zs w1.heap.size 0) 1 1]).run Tryz.prog (w1.alloc (zj5 h r s t (.slice G m1 L) (.slice I m2 M) (.slice J m3 U)))=.ok (.slice (Zs g 0) (k+1) cap) c /\
    c.cell? ⟨w.heap.size+1+1,6,none⟩=some (.slice q k cq)/\c.frozen? ⟨w.heap.size+1+1,6,none⟩=false /\
    OExs n (c.setCell ⟨w.heap.size+1+1,6,none⟩ (.slice (Zs g 0) (k+1) cap)) (.slice (Zs g 0) (k+1) cap) D d (xs.take (k+1)) /\
    XI w (zj5 A K N S (.slice pt nt ct) (.slice pn nn cn) (.slice pp np cp)) F n (zj5 A K N S vt vn (.slice (Zs g 0) (k+1) cap)) (c.setCell ⟨w.heap.size+1+1,6,none⟩ (.slice (Zs g 0) (k+1) cap)):=by
 obtain⟨i1,i2,i3,hb,⟨i5,i6⟩,i7⟩:=id hX;refine(hC wr.drew (Jb hb)).mono ?_;rintro e w1 ⟨⟨u,rfl,ag,ab⟩,ah⟩;have V:ZB wr w1:=JO ah;have al:=V.size;obtain⟨h,r,s,t,G,I,J,m1,L,m2,M,m3,U,rfl⟩:=val7_form (ab w1 fun _ _ _=>rfl).1;have Z:=(V.block _ (by omega)).trans i3;have ai:=(V.block _ (by omega)).trans i1;obtain⟨g,cap,c,E,ac,am,ad,aj⟩:=append_exs HO i6 V ab ag (by rw[YE];omega);rw[YE,Xz (by omega)]at E ac;have ae:∀j,(Value.slice q k cq).ownBlock=some j->n<=j:=fun j Y=>by
  obtain⟨an,_,ho,_⟩:=HO;exact(ho.lt j Y).1
 have aa:c.heap[w.heap.size+2]?=some (zj5 A K N S vt vn (.slice q k cq)):=(ad _ (by omega) (fun Y=>by have:=ae _ Y.symm;omega)).trans Z;refine⟨h,r,s,t,G,I,J,m1,L,m2,M,m3,U,rfl,by rw[Y0 Z];rfl,by rw[Y0 ai];rfl,?_,g,cap,c,E,by rw[Y0 aa];rfl,YH aa 6,?_,hX.step ?_ ?_ ?_ ?_⟩
 ·rw[Y0 ((zc2 w1 _ _ (by omega)).trans Z)];rfl
 ·rw[zbb af];exact ac.move (by simp) fun j hj=>Ja (by omega)
 ·rw[zhk aa];rfl
 ·exact(hb.trans (aj.mono (by omega))).setCell (p:=⟨w.heap.size+1+1,6,none⟩) (by show w.heap.size<=w.heap.size+1+1;omega) _
 ·simp;omega
 ·intro j hj ak;rw[Ja ak,ad j (by omega) (fun Y=>by have:=ae _ Y.symm;omega),V.block j (by omega)]
end
theorem zlt {D d:Nat} {xs:List (Ex D d)} {x:Ex D d} (h:x∈xs):szX D d x<=zdp D d xs:=by
 induction xs with
 | nil=>cases h
 | cons y r c=>
  unfold zdp at c ⊢;rw[Yf,YM];rcases Xj.1 h with rfl|h
  ·omega
  ·have:=c h;omega
theorem zmt:∀{D d:Nat} (xs:List (Ex D d)),xs.length<=zdp D d xs
 | _,0,[]=>by simp
 | _,0,x::_=>nomatch x
 | D,d+1,xs=>by
  induction xs with
  | nil=>simp
  | cons y r c=>
   unfold zdp at c ⊢;rw[Yf,YM,Yk];have:1<=szX D (d+1) y:=by rw[szX];omega
   omega
theorem ownx_enter (args:Array Value) (w:Zw):Sem.run Tryz.prog (callFunc 97 args) w=.ok (.enter 97 args) w:=by kernel_rfl
theorem three_boxes (w:Zw) (c g:Obj):XI w c (fun _=>True) (w.heap.size+3) g (((w.alloc c).alloc ownX0).alloc g):=by
 refine⟨?_,?_,?_,((Za _ _).alloc (by simp) _).alloc (by simp;omega) _,⟨Y5 _,by simp⟩,fun _ _=>trivial⟩
 ·rw[zc2 _ _ _ (by simp;omega),zc2 _ _ _ (by simp)];exact Jm w c
 ·rw[zc2 _ _ _ (by simp)];simpa using Jm (w.alloc c) ownX0
 ·simpa using Jm ((w.alloc c).alloc ownX0) g
theorem names_done {w r c:Zw} {A K N:Int} {S:Zy} {s:Obj} {G:Zw->Prop} {v:Value} (h:XI w s (fun _=>True) (w.heap.size+3) (zj5 A K N S (Zz) (Zz) (Zz)) r) (g:ZB r c) (t:∀W':Zw,(∀j,r.heap.size<=j->j<c.heap.size->W'.heap[j]?=c.heap[j]?)->G W') :
  XI w s (fun W'=>True/\G W') (c.setCell ⟨w.heap.size+1+1,5,none⟩ v).heap.size (zj5 A K N S (Zz) v (Zz)) (c.setCell ⟨w.heap.size+1+1,5,none⟩ v):=by
 obtain⟨i1,i2,i3,u,⟨i5,i6⟩,i7⟩:=id h;have L:=g.size;refine(h.step (xO2:=zj5 A K N S (Zz) v (Zz)) ?_ ?_ ?_ ?_).more fun W' x=>t W' fun j M I=>?_
 ·rw[zhk ((g.block _ (by omega)).trans i3)];rfl
 ·exact(u.trans (g.mono (by omega))).setCell (p:=⟨w.heap.size+1+1,5,none⟩) (by show w.heap.size<=w.heap.size+1+1;omega) _
 ·simp;omega
 ·intro j U J;rw[Ja J,g.block j (by omega)]
 ·rw[x j (by omega) (by simpa using I),Ja (by omega)]
theorem own_done {w wr:Zw} {r s:Obj} {F:Zw->Prop} {v0 v1 v2 v3 v4 v5 v6:Value} (h:XI w r F wr.heap.size s wr) :
  let c:=((((((wr.setCell ⟨w.heap.size+1,0,none⟩ v0).setCell ⟨w.heap.size+1,1,none⟩ v1).setCell ⟨w.heap.size+1,2,none⟩ v2).setCell ⟨w.heap.size+1,3,none⟩ v3).setCell ⟨w.heap.size+1,4,none⟩ v4).setCell ⟨w.heap.size+1,5,none⟩ v5).setCell ⟨w.heap.size+1,6,none⟩ v6
  c.heap[w.heap.size+1]?=some (.cells #[v0,v1,v2,v3,v4,v5,v6] 62)/\ZB w c/\∀W':Zw,(∀j,w.heap.size<=j->j<c.heap.size->W'.heap[j]?=c.heap[j]?)->F W':=by
 obtain⟨i1,i2,i3,t,⟨i5,i6⟩,i7⟩:=h;intro c;have hle:w.heap.size<=w.heap.size+1:=by omega
 have u:∀j,j≠w.heap.size+1->c.heap[j]?=wr.heap[j]?:=fun j g=>by show(World.setCell _ _ _).heap[j]?=_;rw[Ja g,Ja g,Ja g,Ja g,Ja g,Ja g,Ja g]
 have G:c.heap.size=wr.heap.size:=by show(World.setCell _ _ _).heap.size=_;simp
 refine⟨?_,?_,fun W' x=>i7 W' fun j I J=>?_⟩
 ·exact zhk (i:=6) (zhk (i:=5) (zhk (i:=4) (zhk (i:=3) (zhk (i:=2) (zhk (i:=1) (zhk (i:=0) i2 v0) v1) v2) v3) v4) v5) v6
 ·exact((((((t.setCell (p:=⟨w.heap.size+1,0,none⟩) hle _).setCell (p:=⟨w.heap.size+1,1,none⟩) hle _).setCell (p:=⟨w.heap.size+1,2,none⟩) hle _).setCell (p:=⟨w.heap.size+1,3,none⟩) hle _).setCell (p:=⟨w.heap.size+1,4,none⟩) hle _).setCell (p:=⟨w.heap.size+1,5,none⟩) hle _).setCell (p:=⟨w.heap.size+1,6,none⟩) hle _
 ·rw[x j (by omega) (by omega),u j (by omega)]
theorem ownx_step (D d:Nat) (IH:OwnXAt D d):OwnXAt D (d+1):=fun t v w hv hz=>by
 obtain⟨pt,pn,pp,ct,cn,cp,rfl,r1,r2,r3⟩:=hv;obtain⟨A,K,N,S,c,ns,xs⟩:=t;have ak:1+S.length+ns.length+zgm ns+szL D c+zdp D d xs<=1000000:=hz;dsimp only[xAt,zfi,xN,xS,xT,xNs,xPs]at *;have al:=Yh (zbh _ c) (zc3 _ c);have am:=zmt xs;have ad:ZH (∀k (L:k<c.length),∃u,zi3 w pt k u/\∀W,ZB w W->Zg 56 #[u] W fun e w'=>(∃u:V5,e=.returned (val5 u)/\(∀x∈zch u,x.oneCell'=true)/\∀W':Zw,(∀j,W.heap.size<=j->j<w'.heap.size->W'.heap[j]?=w'.heap[j]?)->TyValD W' D (val5 u) c[k])/\ZB W w'):=fun k L=>by
  obtain⟨u,hu,hv⟩:=r1.at k L;have ai:=zdk (Ys L);exact⟨u,hu,fun W hW=>own_any D _ u W (TyValD.below hW hv) (by omega)⟩
 have HP:ZH (∀k (L:k<xs.length),∃u,ExCell w pp k u/\∀W,ZB w W->Zg 97 #[u] W fun e w'=>(∃u:V7,e=.returned (val7 u)/\(∀x∈za1 u,x.oneCell'=true)/\∀W':Zw,(∀j,W.heap.size<=j->j<w'.heap.size->W'.heap[j]?=w'.heap[j]?)->EV W' D d (val7 u) xs[k])/\ZB W w'):=fun k L=>by
  obtain⟨u,hu,hv⟩:=r3.at k L;have ai:=zlt (Ys L);exact⟨u,hu,fun W hW=>IH _ u W (ExValD.below hW hv) (by omega)⟩
 have ac:=J3 r2;clear r1 r2 r3 IH hz;go_enter Tryz.func97,Tryz.ntmps97;go_upto_region 2 with fail
 go_cut [] (fun wx=>∃Wy:Zw,Wy=wx/\ZH (XI w (zj5 A K N ⟨S.toArray⟩ (.slice pt c.length ct) (.slice pn ns.length cn) (.slice pp xs.length cp)) (fun _=>True) (w.heap.size+3) (zj5 A K N ⟨S.toArray⟩ (Zz) (Zz) (Zz)) Wy))
 case first=>
  go_wp2;go_meet
  case rel=>exact⟨_,rfl,three_boxes w _ _⟩
 case rest=>
  obtain⟨Wy,rfl,HX⟩:=hcut;go_upto_region 3 with fail
  go_cut [] (fun wx=>∃(h:Zo) (r:Nat) (U:Zw),U=wx/\ZH (XI w (zj5 A K N ⟨S.toArray⟩ (.slice pt c.length ct) (.slice pn ns.length cn) (.slice pp xs.length cp)) (fun W'=>True/\SRow W' (.slice h ns.length r) ns) U.heap.size (zj5 A K N ⟨S.toArray⟩ (Zz) (.slice h ns.length r) (Zz)) U))
  case first=>
   obtain⟨i1,i2,i3,M,⟨i5,i6⟩,i7⟩:=J0 HX;obtain⟨h,r,Wn,E1,bn,FN⟩:=zmf (ac.below M) (by omega);have ND:=J3 (names_done (v:=.slice h ns.length r) HX bn FN);have xn:Wn.heap[w.heap.size+2]?=_:=(bn.block _ (by omega)).trans i3;have y5:Wy.cell? ⟨w.heap.size+1+1,5,none⟩=some (Zz):=by rw[Y0 i3];rfl
   have t5:Wy.cell? ⟨w.heap.size,5,none⟩=some (.slice pn ns.length cn):=by rw[Y0 i1];rfl
   have n5:Wn.cell? ⟨w.heap.size+1+1,5,none⟩=some (Zz):=by rw[Y0 xn];rfl
   have f5:Wn.frozen? ⟨w.heap.size+1+1,5,none⟩=false:=YH xn 5;have HE:=J3 E1;clear i1 i2 i3 M i5 i6 i7 E1 bn FN xn;go_wp2_with (at_builtin;refine J4 rfl (.tmp 19) (.tmp 21) 27 rfl rfl rfl HE ?_;clear HE);go_meet
   case rel=>exact⟨h,r,_,rfl,ND⟩
  case rest=>
   obtain⟨h,r,W5,rfl,ae⟩:=hcut;clear HX;go_upto_block 0 with fail
   go_cut [] (fun wx=>∃(G:Zo) (c4:Nat) (U:Zw),U=wx/\ZH (XI w (zj5 A K N ⟨S.toArray⟩ (.slice pt c.length ct) (.slice pn ns.length cn) (.slice pp xs.length cp)) (fun W'=>(True/\SRow W' (.slice h ns.length r) ns)/\TyRow W' D (.slice G c.length c4) c) U.heap.size (zj5 A K N ⟨S.toArray⟩ (.slice G c.length c4) (.slice h ns.length r) (Zz)) U))
   case first=>
    go_wp2_with fail
    go_loopg [4] c.length (fun gk i wr=>∃(k:Nat) (q:Zo) (cq:Nat),i=Zi k/\k+gk=c.length/\ZH (OTys W5.heap.size wr (.slice q k cq) D (c.take k))/\ZH (XI w (zj5 A K N ⟨S.toArray⟩ (.slice pt c.length ct) (.slice pn ns.length cn) (.slice pp xs.length cp)) (fun W'=>True/\SRow W' (.slice h ns.length r) ns) W5.heap.size (zj5 A K N ⟨S.toArray⟩ (.slice q k cq) (.slice h ns.length r) (Zz)) wr))
    case atStart=>exact⟨0,none,0,rfl,by omega,OTys.nil _ _ _,ae⟩
    case round=>
     obtain⟨k,q,cq,rfl,L,J,I⟩:=hrel;obtain⟨i1,i2,i3,M,⟨i5,i6⟩,i7⟩:=J0 I;have c4:wr.cell? ⟨w.heap.size,4,none⟩=some (.slice pt c.length ct):=by rw[Y0 i1];rfl
     have x4:wr.cell? ⟨w.heap.size+1+1,4,none⟩=some (.slice q k cq):=by rw[Y0 i3];rfl
     have s:=J3 M;clear i1 i2 i3 i5 i6 i7 M;by_cases ab:k<c.length
     ·obtain⟨u,⟨g,o,K',S',qn,qe,q3,nn,d1,ne,d2,n3,d3,rfl,rfl,a0,V,a2,a3,a4⟩,HI⟩:=ad k ab;have b0:=(s.cell (p:=⟨g,_,none⟩) (J2 a0)).trans a0;have b1:=(s.cell (p:=⟨g,_,none⟩) (J2 V)).trans V;have b2:=(s.cell (p:=⟨g,_,none⟩) (J2 a2)).trans a2;have b3:=(s.cell (p:=⟨g,_,none⟩) (J2 a3)).trans a3;have b4:=(s.cell (p:=⟨g,_,none⟩) (J2 a4)).trans a4;have af:(k:Int)<(c.length:Int):=by omega
      have CL:=J3 (round_ty I J ab (by omega) HI);clear HI a0 V a2 a3 a4 J I s ad HP ac ae;go_wp2_with fail
      go_region_law (first
       | (refine zbd (u:=.agg #[Zi K',.string S',.slice qn nn d1,.slice qe ne d2,.slice q3 n3 d3]) rfl 56 (.tmp 37) 31 rfl (by simp[Act.eval]) zev ?_;refine CL.mono ?_;rintro e w1 ⟨K2,S2,rn,re,rp,m1,y1,m2,y2,m3,y3,rfl,e1,e2,e3,g',cap,W4,E,e4,e5,e6,e7⟩;refine⟨_,rfl,?_⟩)
       | refine zac rfl (.tmp 32) (.tmp 39) 29 rfl (by simp[Act.eval]) (by simp[Act.eval]) E ?_)
      all_goals
       go_wp2_with fail;go_roundg (c.length-(k+1))
       case measure=>omega
       case rel=>exact⟨k+1,_,_,by go_num,by omega,e6,e7⟩
     ·obtain rfl:k=c.length:=by omega
      have HM:=J3 (I.more (fun W' aa=>J.rows W' aa));rw[Yr]at HM;have af:¬(c.length:Int)<(c.length:Int):=by omega
      clear I J s;go_wp2_with fail;go_meet
      case rel=>exact⟨q,cq,_,rfl,HM⟩
   case rest=>
    obtain⟨G,c4,W6,rfl,ag⟩:=hcut;clear ae ad;go_wp2_with fail
    go_loopg [5] xs.length (fun gk i wr=>∃(k:Nat) (q:Zo) (cq:Nat),i=Zi k/\k+gk=xs.length/\ZH (OExs W6.heap.size wr (.slice q k cq) D d (xs.take k))/\ZH (XI w (zj5 A K N ⟨S.toArray⟩ (.slice pt c.length ct) (.slice pn ns.length cn) (.slice pp xs.length cp)) (fun W'=>(True/\SRow W' (.slice h ns.length r) ns)/\TyRow W' D (.slice G c.length c4) c) W6.heap.size (zj5 A K N ⟨S.toArray⟩ (.slice G c.length c4) (.slice h ns.length r) (.slice q k cq)) wr))
    case atStart=>exact⟨0,none,0,rfl,by omega,OExs.nil _ _ _ _,ag⟩
    case round=>
     obtain⟨k,q,cq,rfl,L,J,I⟩:=hrel;obtain⟨i1,i2,i3,M,⟨i5,i6⟩,i7⟩:=J0 I;have c6:wr.cell? ⟨w.heap.size,6,none⟩=some (.slice pp xs.length cp):=by rw[Y0 i1];rfl
     have x6:wr.cell? ⟨w.heap.size+1+1,6,none⟩=some (.slice q k cq):=by rw[Y0 i3];rfl
     have s:=J3 M;by_cases ab:k<xs.length
     ·clear i1 i2 i3 i5 i6 i7 M;obtain⟨u,⟨g,o,A',K',N',S',qn,qe,q3,nn,d1,ne,d2,n3,d3,rfl,rfl,a0,V,a2,a3,a4,a5,a6⟩,HI⟩:=HP k ab;have b0:=(s.cell (p:=⟨g,_,none⟩) (J2 a0)).trans a0;have b1:=(s.cell (p:=⟨g,_,none⟩) (J2 V)).trans V;have b2:=(s.cell (p:=⟨g,_,none⟩) (J2 a2)).trans a2;have b3:=(s.cell (p:=⟨g,_,none⟩) (J2 a3)).trans a3;have b4:=(s.cell (p:=⟨g,_,none⟩) (J2 a4)).trans a4;have b5:=(s.cell (p:=⟨g,_,none⟩) (J2 a5)).trans a5;have b6:=(s.cell (p:=⟨g,_,none⟩) (J2 a6)).trans a6;have af:(k:Int)<(xs.length:Int):=by omega
      have CL:=J3 (round_ex I J ab (by omega) HI);clear HI a0 V a2 a3 a4 a5 a6 J I s HP ac ag;go_wp2_with fail
      go_region_law (first
       | (refine zbd (u:=.agg #[Zi A',Zi K',Zi N',.string S',.slice qn nn d1,.slice qe ne d2,.slice q3 n3 d3]) rfl 97 (.tmp 55) 62 rfl (by simp[Act.eval]) ownx_enter ?_;refine CL.mono ?_;rintro e w1 ⟨A2,K2,N2,S2,rn,re,rp,m1,y1,m2,y2,m3,y3,rfl,e1,e2,e3,g',cap,W4,E,e4,e5,e6,e7⟩;refine⟨_,rfl,?_⟩)
       | refine zac rfl (.tmp 50) (.tmp 57) 60 rfl (by simp[Act.eval]) (by simp[Act.eval]) E ?_)
      all_goals
       go_wp2_with fail;go_roundg (xs.length-(k+1))
       case measure=>omega
       case rel=>exact⟨k+1,_,_,by go_num,by omega,e6,e7⟩
     ·obtain rfl:k=xs.length:=by omega
      have af:¬(xs.length:Int)<(xs.length:Int):=by omega
      have hO:=J3 (I.more (fun W' aa=>And.intro (J.rows W' aa) (J.caps W' aa)));rw[Yr]at hO;have CX:wr.cell? ⟨w.heap.size+1+1,0,none⟩=some (Zi A)/\wr.cell? ⟨w.heap.size+1+1,1,none⟩=some (Zi K)/\wr.cell? ⟨w.heap.size+1+1,2,none⟩=some (Zi N)/\wr.cell? ⟨w.heap.size+1+1,3,none⟩=some (.string ⟨S.toArray⟩)/\wr.cell? ⟨w.heap.size+1+1,4,none⟩=some (.slice G c.length c4)/\wr.cell? ⟨w.heap.size+1+1,5,none⟩=some (.slice h ns.length r):=
       ⟨by rw[Y0 i3];rfl,by rw[Y0 i3];rfl,by rw[Y0 i3];rfl,by rw[Y0 i3];rfl,by rw[Y0 i3];rfl,by rw[Y0 i3];rfl⟩
      obtain⟨k0,k1,k2,k3,k4,k5⟩:=CX;have CZ:wr.cell? ⟨w.heap.size+1,0,none⟩=some (Zi 0)/\wr.cell? ⟨w.heap.size+1,1,none⟩=some (Zi 0)/\wr.cell? ⟨w.heap.size+1,2,none⟩=some (Zi 0)/\wr.cell? ⟨w.heap.size+1,3,none⟩=some (.string ⟨#[]⟩)/\wr.cell? ⟨w.heap.size+1,4,none⟩=some (Zz)/\wr.cell? ⟨w.heap.size+1,5,none⟩=some (Zz)/\wr.cell? ⟨w.heap.size+1,6,none⟩=some (Zz):=
       ⟨by rw[Y0 i2];rfl,by rw[Y0 i2];rfl,by rw[Y0 i2];rfl,by rw[Y0 i2];rfl,by rw[Y0 i2];rfl,by rw[Y0 i2];rfl,by rw[Y0 i2];rfl⟩
      obtain⟨z0,z1,z2,z3,z4,z5,z6⟩:=CZ;have fz:=YH i2;have DN:=J3 (own_done (v0:=Zi A) (v1:=Zi K) (v2:=Zi N) (v3:=.string ⟨S.toArray⟩) (v4:=.slice G c.length c4) (v5:=.slice h ns.length r) (v6:=.slice q xs.length cq) hO);clear i1 i2 i3 i5 i6 i7 M J I s HP ac ag hO;go_wp2_with fail;obtain⟨Y,aj⟩:=Ze (((((((wr.setCell ⟨w.heap.size+1,0,none⟩ (Zi A)).setCell ⟨w.heap.size+1,1,none⟩ (Zi K)).setCell ⟨w.heap.size+1,2,none⟩ (Zi N)).setCell ⟨w.heap.size+1,3,none⟩ (.string ⟨S.toArray⟩)).setCell ⟨w.heap.size+1,4,none⟩ (.slice G c.length c4)).setCell ⟨w.heap.size+1,5,none⟩ (.slice h ns.length r)).setCell ⟨w.heap.size+1,6,none⟩ (.slice q xs.length cq):Zw)
      have ah:=J0 DN;rw[<-aj]at ah ⊢;obtain⟨Z,bF,rF⟩:=ah;have f0:Y.cell? ⟨w.heap.size+1,0,none⟩=some (Zi A):=by rw[Y0 Z];rfl
      have f1:Y.cell? ⟨w.heap.size+1,1,none⟩=some (Zi K):=by rw[Y0 Z];rfl
      have f2:Y.cell? ⟨w.heap.size+1,2,none⟩=some (Zi N):=by rw[Y0 Z];rfl
      have f3:Y.cell? ⟨w.heap.size+1,3,none⟩=some (.string ⟨S.toArray⟩):=by rw[Y0 Z];rfl
      have f4:Y.cell? ⟨w.heap.size+1,4,none⟩=some (.slice G c.length c4):=by rw[Y0 Z];rfl
      have f5:Y.cell? ⟨w.heap.size+1,5,none⟩=some (.slice h ns.length r):=by rw[Y0 Z];rfl
      have f6:Y.cell? ⟨w.heap.size+1,6,none⟩=some (.slice q xs.length cq):=by rw[Y0 Z];rfl
      refine Yi (v:=.agg #[Zi A,Zi K,Zi N,.string ⟨S.toArray⟩,.slice G c.length c4,.slice h ns.length r,.slice q xs.length cq]) (by simp[results,Tryz.results97,go_sem,f0,f1,f2,f3,f4,f5,f6]) rfl ⟨⟨Zi A,Zi K,Zi N,.string ⟨S.toArray⟩,.slice G c.length c4,.slice h ns.length r,.slice q xs.length cq,rfl,?_,fun W' aa=>?_⟩,bF⟩
      ·intro x hx;simp[za1]at hx;rcases hx with rfl|rfl|rfl|rfl|rfl|rfl|rfl <;> rfl
      ·obtain⟨⟨⟨_,g1⟩,g2⟩,g3⟩:=rF W' aa;exact⟨⟨G,h,q,c4,r,cq,rfl,g2,g1,g3.1⟩,⟨_,_,_,_,_,_,_,rfl,g3.2⟩⟩
theorem ownx_any (D:Nat):∀d,OwnXAt D d
 | 0=>fun t=>nomatch t
 | d+1=>ownx_step D d (ownx_any D d)
end Go.Proofs.YtdcbglnhhbmpgaaGreatDoor
