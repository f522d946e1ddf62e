import Derived.Test.YtdcbglnhhbmpgaaGreatDoorQListG
set_option maxHeartbeats 4000000
set_option maxRecDepth 100000
namespace Go.Proofs.YtdcbglnhhbmpgaaGreatDoor
open Go Go.RowKit Lx
def StValD (W:Zw) (D d:Nat):(m:Nat)->Value->St D d m->Prop
 | 0,_,_=>False
 | m+1,v,s=>StVal W D d m v s
def OSts (B:Nat) (W:Zw) (v:Value) (D d m:Nat) (c:List (St D d m)):Prop:=
 ∃es:List V7,es.length=c.length/\W.ownsRow B 124 7 v c.length (es.flatMap za1)/\∀(j:Nat) (u:V7) (t:St D d m),es[j]?=some u->c[j]?=some t->Fr B v.ownBlock W (fun W'=>StValD W' D d m (val7 u) t)
theorem OSts.nil (B:Nat) (W:Zw) (D d m:Nat):OSts B W (Zz) D d m []:=⟨[],rfl,YU _ _ _ _,fun j u t h=>by simp at h⟩
theorem OSts.rows {B:Nat} {W:Zw} {v:Value} {D d:Nat}:∀{m:Nat} {s:List (St D d m)},OSts B W v D d m s->∀W':Zw,(∀j,B<=j->j<W.heap.size->W'.heap[j]?=W.heap[j]?)->StRow W' D d m v s
 | 0,s,h,W',_=>by
  obtain⟨es,_,u,_⟩:=h;obtain⟨p,c,rfl,_⟩:=Jh u
  match s with
  | []=>exact⟨p,c,rfl⟩
  | t::_=>exact nomatch t
 | m+1,s,⟨es,hl,u,he⟩,W',G=>by
  obtain⟨p,c,rfl,hc⟩:=Jh u;refine⟨p,c,rfl,fun j t I=>?_⟩;have hj:j<s.length:=(YI.1 I).1;have hu:es[j]?=some es[j]:=by simp
  have J:=he j _ t hu I W' fun i L M _=>G i L M
  obtain⟨pt,px,pb,pe,ct,cx,cb,ce,e,U,V,Y,Z⟩:=J;obtain⟨q0,q1,q2,q3,q4,q5,q6⟩:=zkg e;rcases u.2 with⟨_,h0⟩|⟨g,cap,cur,e3,hb,hg,_⟩
  ·omega
  ·injection e3 with e4 _ _
   subst e4;have aa:=(Y8.1 hg).1;have r:∀i x,(za1 es[j])[i]?=some x->W'.cell? ⟨g,0+j*7+i,none⟩=some x:=fun i x hx=>by
    rw[zfn (G g hb aa),X3];have:=u.cells (g:=g) rfl _ _ (zgr es j i _ x hu hx);rwa[addr_add]at this
   exact⟨g,0,_,_,_,_,rfl,(by have:=r 0 _ rfl;rw[q0]at this;simpa using this),(by have:=r 1 _ rfl;rw[q1]at this;exact this),(by have:=r 2 _ rfl;rw[q2]at this;exact this),(by have:=r 3 _ rfl;rw[q3]at this;exact this),(by have:=r 4 _ rfl;rw[q4]at this;exact this),(by have:=r 5 _ rfl;rw[q5]at this;exact this),(by have:=r 6 _ rfl;rw[q6]at this;exact this),U,V,Y,Z⟩
theorem info_st:(Tryz.prog.info? 124).map (fun i=>(i.zero,i.size,i.bytes))=some (some (.agg #[Zi 0,Zi 0,.string ⟨#[]⟩,Zz,Zz,Zz,Zz]),7,128):=by kernel_rfl
theorem append_sts {B D d m:Nat} {wr c:Zw} {v:Value} {r:List (St D d m)} {t:St D d m} {u:V7} (h:OSts B wr v D d m r) (hB:B<=wr.heap.size) (U:ZB wr c) (hu:∀W':Zw,(∀j,wr.heap.size<=j->j<c.heap.size->W'.heap[j]?=c.heap[j]?)->StValD W' D d m (val7 u) t) (h1:∀x∈za1 u,x.oneCell'=true) (hl:r.length<=1000000) :
  ∃(g cap:Nat) (G:Zw),(Builtin.append_ #[32,32] 32 #[v,.slice (Zs c.heap.size 0) 1 1]).run Tryz.prog (c.alloc (.cells #[u.1,u.2.1,u.2.2.1,u.2.2.2.1,u.2.2.2.2.1,u.2.2.2.2.2.1,u.2.2.2.2.2.2] 124))=.ok (.slice (Zs g 0) (r.length+1) cap) G /\
   OSts B G (.slice (Zs g 0) (r.length+1) cap) D d m (r++[t])/\c.heap.size<=G.heap.size/\(∀j,j<c.heap.size->some j≠v.ownBlock->G.heap[j]?=c.heap[j]?)/\Below B wr G:=by
 obtain⟨es,aa,ho,he⟩:=h;obtain⟨i0,V,ad,ae,af⟩:=Xx info_st;have ag:=U.size;have ah:c.ownsRow B 124 7 v r.length (es.flatMap za1):=ho.kept (Je U) (by cases v.ownBlock <;> simp);obtain⟨g,cap,G,hr,ai,Y,aj,_⟩:=run_append_lies (P:=Tryz.prog) (c.alloc (.cells #[u.1,u.2.1,u.2.2.1,u.2.2.2.1,u.2.2.2.2.1,u.2.2.2.2.2.1,u.2.2.2.2.2.2] 124)) 32 32 B 124 i0 (.agg #[Zi 0,Zi 0,.string ⟨#[]⟩,Zz,Zz,Zz,Zz]) 7 128 Tryz.underlying32 V ad ae af rfl (by decide) v r.length _
  (ah.alloc _) ⟨c.heap.size,0,none⟩ 1 1 (za1 u) rfl
  (fun j x hx=>by rw[addr_add,Ya _ _ _ _ rfl,<-hx];simp[za1]) h1 (by omega) (by unfold maxLen;omega) (by omega) (by simp;omega) (c.heap.size+1) (by simp)
 have ab:∀k,v.ownBlock=some k->B<=k/\k<wr.heap.size:=ho.lt
 have an:c.heap.size+1<=G.heap.size:=by have:=Y.size;simpa using this
 have Z:∀j,j<c.heap.size->some j≠v.ownBlock->G.heap[j]?=c.heap[j]?:=fun j I L=>(Y.block j (by simp;omega) L).trans (((Yu c.heap.size c).alloc (Y5 _) _).block j I)
 have ac:(some g=v.ownBlock)∨∀g2,some g=some g2->c.heap.size<=g2:=by
  rcases aj with e|e
  ·exact .inl e.symm
  ·exact .inr fun g2 M=>by cases M;omega
 refine⟨g,cap,G,hr,⟨es++[u],by simp[aa],by simpa[za1,YO]using ai,fun j x s I J=>?_⟩,by omega,Z,?_⟩
 ·show Fr B (some g) G _;rcases YW j r.length with ak|al
  ·rw[YC (by omega)]at I;rw[YC ak]at J;refine(he j x s I J).step (by omega) (fun i V L=>?_) ?_
   ·rw[Z i (by omega) L];exact U.block i V
   ·rcases ac with e|e
    ·exact .inl e
    ·exact .inr fun g2 M=>Yh ag (e g2 M)
  ·rw[Yv (by omega)]at I;rw[Yv al]at J;have ej:j-r.length=0:=by
    rcases X1 (j-r.length)with e|e
    ·exact e
    ·rw[X9 (by simp;omega)]at J;cases J
   rw[ej]at J;rw[aa,ej]at I;simp at I J;subst I J;intro W' am;refine hu W' fun i h2 h3=>?_
   have L:some i≠v.ownBlock:=fun e=>by have:=(ab i e.symm).2;omega
   rw[am i (by omega) (by omega) ?_,Z i h3 L];rcases ac with e|e
   ·rw[e];exact L
   ·intro M;have:=e i M.symm;omega
 ·refine((U.mono hB).alloc (by omega) _).grown Y (by simp;omega) fun k ek=>(ab k ek).1
def SI (wr:Zw) (F:Zw->Prop) (n bx:Nat) (c:Obj) (W:Zw):Prop:=
 W.heap[bx]?=some c/\(wr.heap.size<=bx/\bx<n/\n<=W.heap.size)/\ZB wr W/\∀W':Zw,(∀j,wr.heap.size<=j->j<n->j≠bx->W'.heap[j]?=W.heap[j]?)->F W'
theorem SI.step {wr W c:Zw} {s xO2:Obj} {F:Zw->Prop} {n bx:Nat} (h:SI wr F n bx s W) (t:c.heap[bx]?=some xO2) (u:ZB wr c) (x:n<=c.heap.size) (G:∀j,j<n->j≠bx->c.heap[j]?=W.heap[j]?):SI wr F n bx xO2 c:=by
 obtain⟨V,⟨I,J,Y⟩,Z,L⟩:=h;exact⟨t,⟨I,J,x⟩,u,fun W' M=>L W' fun j U g r=>(M j U g r).trans (G j g r)⟩
theorem SI.more {wr W:Zw} {c:Obj} {F G:Zw->Prop} {n bx:Nat} (h:SI wr F n bx c W) (t:∀W':Zw,(∀j,n<=j->j<W.heap.size->W'.heap[j]?=W.heap[j]?)->G W'):SI wr (fun W'=>F W'/\G W') W.heap.size bx c W:=by
 obtain⟨u,⟨x,M,U⟩,I,J⟩:=h;exact⟨u,⟨x,by omega,Y5 _⟩,I,fun W' g=>⟨J W' fun j r s L=>g j r (by omega) L,t W' fun j r s=>g j (by omega) s (by omega)⟩⟩
abbrev ownS (A K:Int) (S:Zy) (vt vx vb ve:Value):Obj:=.cells #[Zi A,Zi K,.string S,vt,vx,vb,ve] 124
section
variable {w0 wr W:Zw} {F:Zw->Prop} {n bx:Nat} {A K:Int} {S:Zy} {q:Zo} {k cq:Nat} {vt vx vb ve v:Value}
theorem sround_ty {D:Nat} {h:List (Ty D)} (hX:SI wr F n bx (ownS A K S (.slice q k cq) vx vb ve) W) (HO:OTys n W (.slice q k cq) D (h.take k)) (ae:k<h.length) (hl:h.length<=1000000)
  (hC:∀W,ZB wr W->Zg 56 #[v] W fun e w'=>(∃u:V5,e=.returned (val5 u)/\(∀x∈zch u,x.oneCell'=true)/\∀W':Zw,(∀j,W.heap.size<=j->j<w'.heap.size->W'.heap[j]?=w'.heap[j]?)->TyValD W' D (val5 u) h[k])/\ZB W w') :
  Zg 56 #[v] W.drew fun e w1=>∃(r:Int) (s:Zy) (t G I:Zo) (m1 J m2 L m3 M:Nat),e=.returned (.agg #[Zi r,.string s,.slice t m1 J,.slice G m2 L,.slice I m3 M]) /\
   w1.cell? ⟨bx,3,none⟩=some (.slice q k cq)/\(w1.alloc (ownO r s (.slice t m1 J) (.slice G m2 L) (.slice I m3 M))).cell? ⟨bx,3,none⟩=some (.slice q k cq) /\
   ∃(g cap:Nat) (c:Zw),(Builtin.append_ #[29,29] 29 #[.slice q k cq,.slice (Zs w1.heap.size 0) 1 1]).run Tryz.prog (w1.alloc (ownO r s (.slice t m1 J) (.slice G m2 L) (.slice I m3 M)))=.ok (.slice (Zs g 0) (k+1) cap) c /\
    c.cell? ⟨bx,3,none⟩=some (.slice q k cq)/\c.frozen? ⟨bx,3,none⟩=false /\
    OTys n (c.setCell ⟨bx,3,none⟩ (.slice (Zs g 0) (k+1) cap)) (.slice (Zs g 0) (k+1) cap) D (h.take (k+1)) /\
    SI wr F n bx (ownS A K S (.slice (Zs g 0) (k+1) cap) vx vb ve) (c.setCell ⟨bx,3,none⟩ (.slice (Zs g 0) (k+1) cap)):=by
 obtain⟨i3,⟨i1,i2,i6⟩,hb,i7⟩:=id hX;refine(hC W.drew (Jb hb)).mono ?_;rintro e w1 ⟨⟨u,rfl,af,aa⟩,ag⟩;have V:ZB W w1:=JO ag;have aj:=V.size;obtain⟨r,s,t,G,I,m1,J,m2,L,m3,M,rfl⟩:=zmh (aa w1 fun _ _ _=>rfl);have Y:=(V.block _ (by omega)).trans i3;obtain⟨g,cap,c,E,ab,ak,ac,ah⟩:=zjk HO i6 V aa af (by rw[YE];omega);rw[YE,Xz (by omega)]at E ab;have ad:∀j,(Value.slice q k cq).ownBlock=some j->n<=j:=fun j U=>by
  obtain⟨al,_,ho,_⟩:=HO;exact(ho.lt j U).1
 have Z:c.heap[bx]?=some (ownS A K S (.slice q k cq) vx vb ve):=(ac _ (by omega) (fun U=>by have:=ad _ U.symm;omega)).trans Y;refine⟨r,s,t,G,I,m1,J,m2,L,m3,M,rfl,by rw[Y0 Y];rfl,?_,g,cap,c,E,by rw[Y0 Z];rfl,YH Z 3,?_,hX.step ?_ ?_ ?_ ?_⟩
 ·rw[Y0 ((zc2 w1 _ _ (by omega)).trans Y)];rfl
 ·rw[zbb ae];exact ab.move (by simp) fun j hj=>Ja (by omega)
 ·rw[zhk Z];rfl
 ·exact(hb.trans (ah.mono (by omega))).setCell (p:=⟨bx,3,none⟩) (by show wr.heap.size<=bx;omega) _
 ·simp;omega
 ·intro j hj ai;rw[Ja ai,ac j (by omega) (fun U=>by have:=ad _ U.symm;omega),V.block j (by omega)]
theorem sround_ex {D d:Nat} {xs:List (Ex D d)} (hX:SI wr F n bx (ownS A K S vt (.slice q k cq) vb ve) W) (HO:OExs n W (.slice q k cq) D d (xs.take k)) (af:k<xs.length) (hl:xs.length<=1000000)
  (hC:∀W,ZB wr W->Zg 97 #[v] W fun e w'=>(∃u:V7,e=.returned (val7 u)/\(∀x∈za1 u,x.oneCell'=true)/\∀W':Zw,(∀j,W.heap.size<=j->j<w'.heap.size->W'.heap[j]?=w'.heap[j]?)->EV W' D d (val7 u) xs[k])/\ZB W w') :
  Zg 97 #[v] W.drew fun e w1=>∃(h r s:Int) (t:Zy) (G I J:Zo) (m1 L m2 M m3 U:Nat),e=.returned (.agg #[Zi h,Zi r,Zi s,.string t,.slice G m1 L,.slice I m2 M,.slice J m3 U]) /\
   w1.cell? ⟨bx,4,none⟩=some (.slice q k cq)/\(w1.alloc (zj5 h r s t (.slice G m1 L) (.slice I m2 M) (.slice J m3 U))).cell? ⟨bx,4,none⟩=some (.slice q k cq) /\
   ∃(g cap:Nat) (c:Zw),(Builtin.append_ #[60,60] 60 #[.slice q k cq,.slice (Zs w1.heap.size 0) 1 1]).run Tryz.prog (w1.alloc (zj5 h r s t (.slice G m1 L) (.slice I m2 M) (.slice J m3 U)))=.ok (.slice (Zs g 0) (k+1) cap) c /\
    c.cell? ⟨bx,4,none⟩=some (.slice q k cq)/\c.frozen? ⟨bx,4,none⟩=false /\
    OExs n (c.setCell ⟨bx,4,none⟩ (.slice (Zs g 0) (k+1) cap)) (.slice (Zs g 0) (k+1) cap) D d (xs.take (k+1)) /\
    SI wr F n bx (ownS A K S vt (.slice (Zs g 0) (k+1) cap) vb ve) (c.setCell ⟨bx,4,none⟩ (.slice (Zs g 0) (k+1) cap)):=by
 obtain⟨i3,⟨i1,i2,i6⟩,hb,i7⟩:=id hX;refine(hC W.drew (Jb hb)).mono ?_;rintro e w1 ⟨⟨u,rfl,ag,ab⟩,ah⟩;have Y:ZB W w1:=JO ah;have ak:=Y.size;obtain⟨h,r,s,t,G,I,J,m1,L,m2,M,m3,U,rfl⟩:=val7_form (ab w1 fun _ _ _=>rfl).1;have Z:=(Y.block _ (by omega)).trans i3;obtain⟨g,cap,c,E,ac,al,ad,ai⟩:=append_exs HO i6 Y ab ag (by rw[YE];omega);rw[YE,Xz (by omega)]at E ac;have ae:∀j,(Value.slice q k cq).ownBlock=some j->n<=j:=fun j V=>by
  obtain⟨am,_,ho,_⟩:=HO;exact(ho.lt j V).1
 have aa:c.heap[bx]?=some (ownS A K S vt (.slice q k cq) vb ve):=(ad _ (by omega) (fun V=>by have:=ae _ V.symm;omega)).trans Z;refine⟨h,r,s,t,G,I,J,m1,L,m2,M,m3,U,rfl,by rw[Y0 Z];rfl,?_,g,cap,c,E,by rw[Y0 aa];rfl,YH aa 4,?_,hX.step ?_ ?_ ?_ ?_⟩
 ·rw[Y0 ((zc2 w1 _ _ (by omega)).trans Z)];rfl
 ·rw[zbb af];exact ac.move (by simp) fun j hj=>Ja (by omega)
 ·rw[zhk aa];rfl
 ·exact(hb.trans (ai.mono (by omega))).setCell (p:=⟨bx,4,none⟩) (by show wr.heap.size<=bx;omega) _
 ·simp;omega
 ·intro j hj aj;rw[Ja aj,ad j (by omega) (fun V=>by have:=ae _ V.symm;omega),Y.block j (by omega)]
end
theorem zjn (args:Array Value) (w:Zw):Sem.run Tryz.prog (callFunc 57 args) w=.ok (.enter 57 args) w:=by kernel_rfl
def zfq (p:Zo) (c:Nat) (D d m:Nat) (g:List (St D d m)) (W:Zw):Prop:=
 Zg 57 #[.slice p g.length c] W fun e w'=>(∃(q:Zo) (cq:Nat),e=.returned (.slice q g.length cq)/\∀W':Zw,(∀j,W.heap.size<=j->j<w'.heap.size->W'.heap[j]?=w'.heap[j]?)->StRow W' D d m (.slice q g.length cq) g)/\ZB W w'
def OwnSAt (D d m:Nat):Prop:=∀(g:List (St D d m)) (p:Zo) (c:Nat) (w:Zw),StRow w D d m (.slice p g.length c) g->zeh D d m g<=1000000->zfq p c D d m g w
open Go Go.RowKit
def destZ (ops:Array Oper) (n z:Nat):Bool:=(List.range ops.size).all fun i=>decide (i=z)||(match (ops[i]?).bind (·.dst)with|none=>false|some d=>decide (d<n)&&(List.range ops.size).all fun j=>decide (j=i)||(ops[j]?).bind (·.dst) != some d)
def lastB (ops:Array Oper) (z:Nat):Bool:=(List.range ops.size).all fun i=>decide (i=z)||Region.waitsFor .any ops z i
theorem destZ_of {ops:Array Oper} {n i z:Nat} {o:Oper} (h:destZ ops n z=true) (u:i≠z) (s:ops[i]?=some o):∃d,o.dst=some d/\d<n/\∀j g,ops[j]?=some g->g.dst=some d->j=i:=by
 have x:i<ops.size:=(Y8.1 s).1;have c:=Yn.1 h i (Yy.2 x);rw[s,Ym u,Bool.false_or]at c;rcases hd:o.dst with _|d
 ·simp[hd]at c
 ·simp only[Option.bind_some,hd,Yc,Xb]at c;refine⟨d,rfl,c.1,fun j g t G=>?_⟩;have r:=Yn.1 c.2 j (Yy.2 (Y8.1 t).1);rw[t]at r;simp[G]at r;exact r
theorem zec {P:Program} {id n z:Nat} {ops:Array Oper} {L:Oper} {Q:Exit->Act->Zw->Prop} {a0:Act} {w:Zw} (hm:P.follows .mixedOrders=true) (hd:destZ ops n z=true) (hk:backB ops=true) (x:lastB ops z=true) (ag:ops[z]?=some L) (al:L.dst=none) (G:a0.tmps.size=n) (B:Zw->Prop) (V:Nat->Value->Zw->Prop) (X:(Nat->Option Value)->Zw->Prop) (hB:B w.drew) (hX:X (fun _=>none) w.drew)
  (each:EachOp (fun i o=>i≠z->YGoal P ops Q a0 n B V X i o) ops.toList 0)
  (fin:∀(a:Act) (w:Zw) (f:Nat->Option Value),a.tmps.size=n->a.defers=a0.defers->(∀t,noB ops t=true->a.tmps.getD t undef=a0.tmps.getD t undef)->B w->(∀j d,(ops[j]?).bind (·.dst)=some d->f j=some (a.tmps.getD d undef))->(∀j v,f j=some v->V j v w)->X f w->Region.wanted L (yielded ops a.tmps)=true/\L.wp P a w (fun a' w'=>a'=a/\Q .normal a w') Q) :
  (Code.region id ops true).wp P Q a0 w:=by
 have am:z<ops.size:=(Y8.1 ag).1;have ah:∀i,i<ops.size->i≠z->Region.waitsFor .any ops z i=true:=fun i hi ab=>by
  have:=Yn.1 x i (Yy.2 hi);rwa[Ym ab,Bool.false_or]at this
 refine wp_region_any hm (zga (fun listed a w=>listed.size=ops.size/\((listed.getD z false=false/\∃f,YInv ops a0 B V X listed a w f)∨((∀i,i<ops.size->listed.getD i false=true)/\Q .normal a w))) (fun _ _ _ h=>h.1) ?_ ?_ ops.size (Array.replicate ops.size false) a0 _ ⟨by simp,.inl ⟨by simp[Array.getD],fun _=>none,by simp,rfl,rfl,fun _ _=>rfl,fun _ _ _ _=>rfl,hB,?_,fun _ _=>rfl,(fun _ _ h=>nomatch h),(fun _ _ _ h=>absurd rfl h),hX⟩⟩ ?_)
 ·rintro listed a u i ⟨M,hinv⟩ hi;have ai:=List.mem_filter.1 hi;have U:i<ops.size:=Yy.1 ai.1;have r:ops[i]?=some ops[i]:=by simp[U]
  have hp:=ai.2;rw[r]at hp;simp only[Yc,X5,YY]at hp;have ac:i<listed.size:=by rw[M];exact U
  have ad:listed.getD i false=false:=by
   have:=hp.1;simp only[Bool.not_eq_true']at this;simp only[Array.getD,ac,dite_true]at this ⊢;exact this
  rcases hinv with⟨Y,f,h⟩|⟨an,_⟩
  rotate_left
  ·rw[an i U]at ad;cases ad
  have hw:∀j I,(ops[j]?).bind (·.dst)=some I->Region.waitsFor .any ops i j=true->f j=some (a.tmps.getD I undef):=fun j I c ao=>by
   obtain⟨oi,s,e,he,J,rfl⟩:=Region.waitsFor_spec ao;rw[r]at s;obtain rfl:=Y1 s;have:=Xh.1 hp.2 e he;rw[J]at this;exact h.yes _ I c (by simpa using this)
  by_cases aa:i=z
  ·subst aa;obtain rfl:L=ops[i]:=(Y1 (r.symm.trans ag)).symm;have ap:∀j,j<ops.size->j≠i->listed.getD j false=true:=fun j c ab=>by
    obtain⟨oi,s,e,he,J,rfl⟩:=Region.waitsFor_spec (ah j c ab);rw[r]at s;obtain rfl:=Y1 s;have:=Xh.1 hp.2 e he;rw[J]at this;simpa using this
   obtain⟨h1,h2⟩:=fin a u f (h.slots.trans G) h.defers h.kept h.base (fun j d c=>by
    have g:j≠i:=fun e=>by subst e;rw[r]at c;simp[al]at c
    obtain⟨o',Z,_⟩:=X0.1 c;exact hw j d c (ah j (Y8.1 Z).1 g)) h.done h.more
   rw[wpOp,r];simp only;rw[Ye h1];refine .inl (Xo ?_ h2);rintro a' w' ⟨rfl,hq⟩;refine⟨by simp[M],.inr ⟨fun j c=>?_,hq⟩⟩;by_cases g:j=i
   ·subst g;simp[Array.getD,ac]
   ·have he:(listed.setIfInBounds i true).getD j false=listed.getD j false:=by
     simp only[YQ];rw[YP (Ne.symm g)]
    exact he.trans (ap j c g)
  obtain⟨d,e1,e2,e3⟩:=destZ_of hd aa r;have hg:=zly _ _ each i ops[i] (by simp[U]);rw[X3]at hg;obtain⟨h1,h2⟩:=hg aa a u f (h.slots.trans G) h.defers h.kept h.late h.base h.done h.more (h.no i ad) h.down hw;rw[wpOp,r];simp only;rw[Ye h1];refine .inl (Xo ?_ h2);rintro a' w' ⟨v,rfl,aq,hv,ar,au⟩;rw[e1];have av:(listed.setIfInBounds i true).getD z false=false:=by
   have he:(listed.setIfInBounds i true).getD z false=listed.getD z false:=by
    simp only[YQ];rw[YP aa]
   exact he.trans Y
  refine⟨by simp[M],.inl ⟨av,JT f i v,by simp[h.size],by simp[Act.put,h.slots],by simp[Act.put,h.defers],fun t ht=>?_,fun t j c G=>?_,aq,fun j I c x=>?_,fun j x=>?_,fun j u c=>?_,fun j m ae c=>?_,au⟩⟩
  ·rw[zbx (fun e=>no_of ht i _ r (by rw[e1,e])),h.kept t ht]
  ·have g:j≠i:=fun e=>by rw[e,Jn]at G;cases G
   rw[J7 _ _ g]at G;obtain⟨o',Z,af⟩:=X0.1 c;have aw:t≠d:=fun e=>g (e3 j o' Z (e ▸ af))
   rw[zbx aw,h.late t j c G]
  ·by_cases g:j=i
   ·subst g;rw[r]at c;obtain rfl:=Y1 (e1.symm.trans c);rw[zij (by rw[h.slots,G];exact e2),Jn]
   ·obtain⟨o',Z,af⟩:=X0.1 c;have ax:I≠d:=fun e=>g (e3 j o' Z (e ▸ af))
    rw[zbx ax,J7 _ _ g];refine h.yes j I c ?_;rw[<-x];simp only[YQ];rw[YP (Ne.symm g)]
  ·by_cases g:j=i
   ·subst g;simp[Array.getD,ac]at x
   ·rw[J7 _ _ g];refine h.no j ?_;have he:(listed.setIfInBounds i true).getD j false=listed.getD j false:=by
     simp only[YQ];rw[YP (Ne.symm g)]
    exact he.symm.trans x
  ·by_cases g:j=i
   ·subst g;rw[Jn]at c;obtain rfl:=Y1 c;exact hv
   ·rw[J7 _ _ g]at c;exact ar j u c
  ·by_cases aj:m=i
   ·subst aj;rw[Jn];simp
   ·rw[J7 _ _ aj];by_cases g:j=i
    ·subst g;obtain⟨oi,s,e,he,J,rfl⟩:=Region.waitsFor_spec ae;have ak:e.on<ops.size:=Nat.lt_trans (back_of hk s he J) U;have ay:e.on≠z:=fun ee=>by
      rw[r]at s;obtain rfl:=Y1 s;have:=Xh.1 hp.2 e he;rw[J,ee,Y]at this;simp at this
     obtain⟨d2,k1,_,_⟩:=destZ_of hd ay (show ops[e.on]?=some ops[e.on] by simp[ak]);rw[hw e.on d2 (by simp[ak,k1]) ae];simp
    ·rw[J7 _ _ g]at c;exact h.down j m ae c
 ·rintro listed a u ⟨M,hinv⟩ hr;rcases hinv with⟨Y,_⟩|⟨_,hq⟩
  ·rw[zka hk M hr z am]at Y;cases Y
  ·exact hq
 ·intro i d _ x;simp[Array.getD]at x
 ·simp[ze6]
abbrev zS:Obj:=ownS 0 0 ⟨#[]⟩ (Zz) (Zz) (Zz) (Zz)
def OZ (W:Zw) (g:Nat):Prop:=W.heap[g]?=some zS
theorem OZ.cells {W:Zw} {g:Nat} (h:OZ W g):(ZL7 W g (Zi 0) (Zi 0) (.string ⟨#[]⟩) (Zz) (Zz) (Zz) (Zz))/\∀i,W.frozen? ⟨g,i,none⟩=false:=
 ⟨⟨by rw[Y0 h];rfl,by rw[Y0 h];rfl,by rw[Y0 h];rfl,by rw[Y0 h];rfl,by rw[Y0 h];rfl,by rw[Y0 h];rfl,by rw[Y0 h];rfl⟩,fun i=>YH h i⟩
section
variable {o:Oper} {a:Act} {w:Zw} {K:Act->Zw->Prop} {Q:Exit->Act->Zw->Prop}
theorem zgg {x y:Operand} {g e:Nat} {n c k:Nat} (j:o.op=.indexAddr 32 x y) (r:a.eval x=.slice (Zs g e) n c) (s:a.eval y=Zi (k:Int)) (t:(k:Int)<(n:Int)) (h:K (a.put o.dst (.pointer (Zs g (e+k*7)))) w):o.wp Tryz.prog a w K Q:=by
 unfold Oper.wp;simp only[execOp,j,r,s];go_simp;exact h
theorem zh0 {x:Operand} {b e i:Nat} (j:i<7) (c:o.op=.fieldAddr 124 x i) (g:a.eval x=.pointer (Zs b e)) (h:K (a.put o.dst (.pointer (Zs b (e+i)))) w):o.wp Tryz.prog a w K Q:=by
 unfold Oper.wp
 match i,j with
 | 0,_=>simp only[execOp,c,g];go_simp;exact h
 | 1,_=>simp only[execOp,c,g];go_simp;exact h
 | 2,_=>simp only[execOp,c,g];go_simp;exact h
 | 3,_=>simp only[execOp,c,g];go_simp;exact h
 | 4,_=>simp only[execOp,c,g];go_simp;exact h
 | 5,_=>simp only[execOp,c,g];go_simp;exact h
 | 6,_=>simp only[execOp,c,g];go_simp;exact h
theorem op_loadN {x:Operand} {b i:Nat} {n:Int} (c:o.op=.load 3 x) (g:a.eval x=.pointer (Zs b i)) (j:w.cell? ⟨b,i,none⟩=some (Zi n)) (h:K (a.put o.dst (Zi n)) w):o.wp Tryz.prog a w K Q:=by
 unfold Oper.wp;simp only[execOp,c,g];go_simp;exact h
theorem op_buildSt {c g j r:Operand} {t:Int} {s:Zy} {pb pe:Zo} {nb cb ne ce:Nat} (u:o.op=.build 124 #[(1,c),(2,g),(5,j),(6,r)]) (x:a.eval c=Zi t) (G:a.eval g=.string s) (I:a.eval j=.slice pb nb cb) (J:a.eval r=.slice pe ne ce)
  (h:K (a.put o.dst (.agg #[Zi 0,Zi t,.string s,Zz,Zz,.slice pb nb cb,.slice pe ne ce])) w):o.wp Tryz.prog a w K Q:=by
 unfold Oper.wp;simp only[execOp,u,Xp,Yf,YG,x,G,I,J];go_simp;exact h
theorem op_allocSt (c:o.op=.alloc 124) (h:K (a.put o.dst (.pointer (Zs w.heap.size 0))) (w.alloc zS)):o.wp Tryz.prog a w K Q:=by
 unfold Oper.wp;simp only[execOp,c];go_simp;exact h
theorem op_storeSt {x y:Operand} {b:Nat} {g:Int} {s:Zy} {pb pe:Zo} {nb cb ne ce:Nat} (j:o.op=.store 124 x y) (hd:o.dst=none) (r:a.eval x=.pointer (Zs b 0)) (t:a.eval y=.agg #[Zi 0,Zi g,.string s,Zz,Zz,.slice pb nb cb,.slice pe ne ce]) (hz:OZ w b)
  (h:K a (((((((w.setCell ⟨b,0,none⟩ (Zi 0)).setCell ⟨b,1,none⟩ (Zi g)).setCell ⟨b,2,none⟩ (.string s)).setCell ⟨b,3,none⟩ (Zz)).setCell ⟨b,4,none⟩ (Zz)).setCell ⟨b,5,none⟩ (.slice pb nb cb)).setCell ⟨b,6,none⟩ (.slice pe ne ce))):o.wp Tryz.prog a w K Q:=by
 obtain⟨⟨z0,u,z2,z3,z4,z5,G⟩,c⟩:=hz.cells;have f0:=c 0;have f1:=c 1;have f2:=c 2;have f3:=c 3;have f4:=c 4;have f5:=c 5;have f6:=c 6;unfold Oper.wp;simp only[execOp,j,r,t];go_simp;exact h
end
theorem stored {W:Zw} {b:Nat} {v0 v1 v2 v3 v4 v5 v6:Value} (h:OZ W b) :
  let g:=((((((W.setCell ⟨b,0,none⟩ v0).setCell ⟨b,1,none⟩ v1).setCell ⟨b,2,none⟩ v2).setCell ⟨b,3,none⟩ v3).setCell ⟨b,4,none⟩ v4).setCell ⟨b,5,none⟩ v5).setCell ⟨b,6,none⟩ v6
  g.heap[b]?=some (.cells #[v0,v1,v2,v3,v4,v5,v6] 124)/\(∀j,j≠b->g.heap[j]?=W.heap[j]?)/\g.heap.size=W.heap.size/\∀(w0:Zw),w0.heap.size<=b->ZB w0 W->ZB w0 g:=by
 intro g;refine⟨?_,fun j c=>?_,?_,fun w0 hle r=>?_⟩
 ·exact zhk (i:=6) (zhk (i:=5) (zhk (i:=4) (zhk (i:=3) (zhk (i:=2) (zhk (i:=1) (zhk (i:=0) h v0) v1) v2) v3) v4) v5) v6
 ·show(World.setCell _ _ _).heap[j]?=_;rw[Ja c,Ja c,Ja c,Ja c,Ja c,Ja c,Ja c]
 ·show(World.setCell _ _ _).heap.size=_;simp
 ·exact((((((r.setCell (p:=⟨b,0,none⟩) hle _).setCell (p:=⟨b,1,none⟩) hle _).setCell (p:=⟨b,2,none⟩) hle _).setCell (p:=⟨b,3,none⟩) hle _).setCell (p:=⟨b,4,none⟩) hle _).setCell (p:=⟨b,5,none⟩) hle _).setCell (p:=⟨b,6,none⟩) hle _
section
variable {D d m:Nat}
def Copy (n0:Nat) (W:Zw) (c g:Nat) (v:Value) (h:List (St D d m)):Prop:=
 (n0<=c/\g<=W.heap.size)/\(∃q y,v=.slice q h.length y)/\∀W':Zw,(∀j,c<=j->j<g->W'.heap[j]?=W.heap[j]?)->StRow W' D d m v h
theorem Copy.below {n0 c g:Nat} {W W':Zw} {v:Value} {r:List (St D d m)} (h:Copy n0 W c g v r) (s:ZB W W'):Copy n0 W' c g v r:=
 ⟨⟨h.1.1,Yh h.1.2 s.size⟩,h.2.1,fun u x=>h.2.2 u fun j G t=>(x j G t).trans (s.block j (Yz t h.1.2))⟩
def XSt (n0:Nat) (K:Int) (S:Zy) (bs es:List (St D d m)) (f:Nat->Option Value) (W:Zw):Prop:=
 (∀v,f 15=some v->∃c g,Copy n0 W c g v bs/\∀b,f 23=some b->∃bx,b=.pointer (Zs bx 0)/\(bx<c∨g<=bx)) /\
 (∀v,f 21=some v->∃c g,Copy n0 W c g v es/\∀b,f 23=some b->∃bx,b=.pointer (Zs bx 0)/\(bx<c∨g<=bx)) /\
 (∀b,f 23=some b->∃bx,b=.pointer (Zs bx 0)/\(n0<=bx/\bx<W.heap.size)/\OZ W bx) /\
 (∀v,f 22=some v->∃vb ve,f 15=some vb/\f 21=some ve/\v=.agg #[Zi 0,Zi K,.string S,Zz,Zz,vb,ve])
variable {n0:Nat} {K:Int} {S:Zy} {bs es:List (St D d m)}
theorem XSt.init (W:Zw):XSt n0 K S bs es (fun _=>none) W:=⟨(fun _ h=>nomatch h),(fun _ h=>nomatch h),(fun _ h=>nomatch h),fun _ h=>nomatch h⟩
theorem XSt.other {f:Nat->Option Value} {W W':Zw} {i:Nat} {v:Value} (h:XSt n0 K S bs es f W) (s:ZB W W') (j:i≠15/\i≠21/\i≠22/\i≠23):XSt n0 K S bs es (JT f i v) W':=by
 obtain⟨I,J,L,M⟩:=h;refine⟨fun x g=>?_,fun x g=>?_,fun x g=>?_,fun x g=>?_⟩
 ·rw[J7 f v (Ne.symm j.1)]at g;obtain⟨t,u,c,r⟩:=I x g;exact⟨t,u,c.below s,fun b e=>r b (by rwa[J7 f v (Ne.symm j.2.2.2)]at e)⟩
 ·rw[J7 f v (Ne.symm j.2.1)]at g;obtain⟨t,u,c,r⟩:=J x g;exact⟨t,u,c.below s,fun b e=>r b (by rwa[J7 f v (Ne.symm j.2.2.2)]at e)⟩
 ·rw[J7 f v (Ne.symm j.2.2.2)]at g;obtain⟨bx,e,⟨U,G⟩,c3⟩:=L x g;exact⟨bx,e,⟨U,Yz G s.size⟩,(s.block _ G).trans c3⟩
 ·rw[J7 f v (Ne.symm j.2.2.1)]at g;obtain⟨vb,ve,V,Y,Z⟩:=M x g;exact⟨vb,ve,by rw[J7 f v (Ne.symm j.1)];exact V,by rw[J7 f v (Ne.symm j.2.1)];exact Y,Z⟩
theorem XSt.call15 {f:Nat->Option Value} {W W':Zw} {v:Value} (h:XSt n0 K S bs es f W) (L:f 15=none) (t:ZB W W') (M:n0<=W.heap.size) (U:∃q y,v=.slice q bs.length y) (V:∀G:Zw,(∀j,W.heap.size<=j->j<W'.heap.size->G.heap[j]?=W'.heap[j]?)->StRow G D d m v bs):XSt n0 K S bs es (JT f 15 v) W':=by
 obtain⟨h1,Y,I,Z⟩:=h;have u:JT f 15 v 23=f 23:=J7 f v (by decide);refine⟨fun x g=>?_,fun x g=>?_,fun x g=>?_,fun x g=>?_⟩
 ·rw[Jn]at g;obtain rfl:=Y1 g;refine⟨W.heap.size,W'.heap.size,⟨⟨M,Y5 _⟩,U,V⟩,fun b e=>?_⟩;rw[u]at e;obtain⟨bx,s,c,_⟩:=I b e;exact⟨bx,s,.inl c.2⟩
 ·rw[J7 f v (by decide)]at g;obtain⟨lo,hh,c,r⟩:=Y x g;exact⟨lo,hh,c.below t,fun b e=>r b (by rwa[u]at e)⟩
 ·rw[u]at g;obtain⟨bx,e,⟨c1,J⟩,c3⟩:=I x g;exact⟨bx,e,⟨c1,Yz J t.size⟩,(t.block _ J).trans c3⟩
 ·rw[J7 f v (by decide)]at g;obtain⟨vb,ve,s,_⟩:=Z x g;rw[L]at s;cases s
theorem XSt.call21 {f:Nat->Option Value} {W W':Zw} {v:Value} (h:XSt n0 K S bs es f W) (L:f 21=none) (s:ZB W W') (M:n0<=W.heap.size) (U:∃q y,v=.slice q es.length y) (V:∀u:Zw,(∀j,W.heap.size<=j->j<W'.heap.size->u.heap[j]?=W'.heap[j]?)->StRow u D d m v es):XSt n0 K S bs es (JT f 21 v) W':=by
 obtain⟨Y,h2,G,Z⟩:=h;have t:JT f 21 v 23=f 23:=J7 f v (by decide);refine⟨fun x g=>?_,fun x g=>?_,fun x g=>?_,fun x g=>?_⟩
 ·rw[J7 f v (by decide)]at g;obtain⟨lo,hh,c,r⟩:=Y x g;exact⟨lo,hh,c.below s,fun b e=>r b (by rwa[t]at e)⟩
 ·rw[Jn]at g;obtain rfl:=Y1 g;refine⟨W.heap.size,W'.heap.size,⟨⟨M,Y5 _⟩,U,V⟩,fun b e=>?_⟩;rw[t]at e;obtain⟨bx,e1,c,_⟩:=G b e;exact⟨bx,e1,.inl c.2⟩
 ·rw[t]at g;obtain⟨bx,e,⟨c1,I⟩,c3⟩:=G x g;exact⟨bx,e,⟨c1,Yz I s.size⟩,(s.block _ I).trans c3⟩
 ·rw[J7 f v (by decide)]at g;obtain⟨vb,ve,_,J,_⟩:=Z x g;rw[L]at J;cases J
theorem XSt.box {f:Nat->Option Value} {W:Zw} (h:XSt n0 K S bs es f W) (t:n0<=W.heap.size):XSt n0 K S bs es (JT f 23 (.pointer (Zs W.heap.size 0))) (W.alloc zS):=by
 obtain⟨u,G,U,I⟩:=h;have s:ZB W (W.alloc zS):=sal1 _ _;refine⟨fun x g=>?_,fun x g=>?_,fun x g=>?_,fun x g=>?_⟩
 ·rw[J7 f _ (by decide)]at g;obtain⟨j,r,c,_⟩:=u x g;refine⟨j,r,c.below s,fun b e=>?_⟩;rw[Jn]at e;exact⟨_,(Y1 e).symm,.inr c.1.2⟩
 ·rw[J7 f _ (by decide)]at g;obtain⟨j,r,c,_⟩:=G x g;refine⟨j,r,c.below s,fun b e=>?_⟩;rw[Jn]at e;exact⟨_,(Y1 e).symm,.inr c.1.2⟩
 ·rw[Jn]at g;exact⟨_,(Y1 g).symm,⟨t,by simp⟩,Jm W zS⟩
 ·rw[J7 f _ (by decide)]at g;obtain⟨vb,ve,J,L,M⟩:=I x g;exact⟨vb,ve,by rw[J7 f _ (by decide)];exact J,by rw[J7 f _ (by decide)];exact L,M⟩
theorem XSt.build {f:Nat->Option Value} {W:Zw} {vb ve:Value} (h:XSt n0 K S bs es f W) (t:f 15=some vb) (u:f 21=some ve):XSt n0 K S bs es (JT f 22 (.agg #[Zi 0,Zi K,.string S,Zz,Zz,vb,ve])) W:=by
 obtain⟨G,I,J,L⟩:=h;refine⟨fun x g=>?_,fun x g=>?_,fun x g=>?_,fun x g=>?_⟩
 ·rw[J7 f _ (by decide)]at g;obtain⟨j,s,c,r⟩:=G x g;exact⟨j,s,c,fun b e=>r b (by rwa[J7 f _ (by decide)]at e)⟩
 ·rw[J7 f _ (by decide)]at g;obtain⟨j,s,c,r⟩:=I x g;exact⟨j,s,c,fun b e=>r b (by rwa[J7 f _ (by decide)]at e)⟩
 ·rw[J7 f _ (by decide)]at g;exact J x g
 ·rw[Jn]at g;exact⟨vb,ve,by rw[J7 f _ (by decide)];exact t,by rw[J7 f _ (by decide)];exact u,(Y1 g).symm⟩
theorem XSt.done {f:Nat->Option Value} {W:Zw} {wr:Zw} {b v:Value} (hw:wr.heap.size=n0) (h:XSt n0 K S bs es f W) (u:ZB wr W) (r:f 23=some b) (x:f 22=some v) :
  ∃(bx:Nat) (qb c:Zo) (yb g:Nat),b=.pointer (Zs bx 0)/\v=.agg #[Zi 0,Zi K,.string S,Zz,Zz,.slice qb bs.length yb,.slice c es.length g]/\OZ W bx /\
   SI wr (fun W'=>StRow W' D d m (.slice qb bs.length yb) bs/\StRow W' D d m (.slice c es.length g) es) (((((((W.setCell ⟨bx,0,none⟩ (Zi 0)).setCell ⟨bx,1,none⟩ (Zi K)).setCell ⟨bx,2,none⟩ (.string S)).setCell ⟨bx,3,none⟩ (Zz)).setCell ⟨bx,4,none⟩ (Zz)).setCell ⟨bx,5,none⟩ (.slice qb bs.length yb)).setCell ⟨bx,6,none⟩ (.slice c es.length g)).heap.size bx (ownS 0 K S (Zz) (Zz) (.slice qb bs.length yb) (.slice c es.length g)) (((((((W.setCell ⟨bx,0,none⟩ (Zi 0)).setCell ⟨bx,1,none⟩ (Zi K)).setCell ⟨bx,2,none⟩ (.string S)).setCell ⟨bx,3,none⟩ (Zz)).setCell ⟨bx,4,none⟩ (Zz)).setCell ⟨bx,5,none⟩ (.slice qb bs.length yb)).setCell ⟨bx,6,none⟩ (.slice c es.length g)):=by
 obtain⟨G,I,J,L⟩:=h;obtain⟨bx,rfl,⟨c1,M⟩,hz⟩:=J b r;obtain⟨vb,ve,U,V,rfl⟩:=L v x;obtain⟨lo,hi,⟨⟨b1,b2⟩,⟨qb,yb,rfl⟩,Y⟩,Z⟩:=G vb U;obtain⟨aa,ab,⟨⟨ac,ad⟩,⟨c,g,rfl⟩,fe⟩,re⟩:=I ve V;obtain⟨x1,e1,d1⟩:=Z _ r;obtain rfl:bx=x1:=by simpa using e1
 obtain⟨x2,e2,d2⟩:=re _ r;obtain rfl:bx=x2:=by simpa using e2
 refine⟨bx,qb,c,yb,g,rfl,rfl,hz,?_⟩;obtain⟨s1,s2,s,s4⟩:=stored (v0:=Zi 0) (v1:=Zi K) (v2:=.string S) (v3:=Zz) (v4:=Zz) (v5:=.slice qb bs.length yb) (v6:=.slice c es.length g) hz;refine⟨s1,⟨by omega,by rw[s];exact M,Y5 _⟩,s4 wr (by omega) u,fun W' t=>⟨Y W' fun j j1 j2=>?_,fe W' fun j j1 j2=>?_⟩⟩
 ·rw[t j (by omega) (by rw[s];omega) (by omega),s2 j (by omega)]
 ·rw[t j (by omega) (by rw[s];omega) (by omega),s2 j (by omega)]
end
section
variable {D d m:Nat} {n0:Nat} {K:Int} {S:Zy} {bs es:List (St D d m)} {ops:Array Oper} {Q:Exit->Act->Zw->Prop} {a0:Act} {n:Nat} {B:Zw->Prop} {vs:List (Option Value)} {i:Nat} {o:Oper}
theorem Qp (I:∀W W',B W->ZB W W'->B W') (J:i≠15/\i≠21/\i≠22/\i≠23)
  (h:∀(a:Act) (w:Zw),(∀t,noB ops t=true->a.tmps.getD t undef=a0.tmps.getD t undef)->B w ->
   (∀j d x,(ops[j]?).bind (·.dst)=some d->Region.waitsFor .any ops i j=true->vs.getD j none=some x->a.tmps.getD d undef=x) ->
   Region.wanted o (yielded ops a.tmps)=true/\o.wp Tryz.prog a w (fun g w'=>∃v,g=a.put o.dst v/\ZB w w'/\vs.getD i none=some v) Q) :
  YGoal Tryz.prog ops Q a0 n B (VP vs) (XSt n0 K S bs es) i o:=fun a w f _ _ L _ r s M _ _ U=>by
 obtain⟨V,Y⟩:=h a w L r fun j d x c hw Z=>VP.at (W:=w) (s j _ (U j d c hw)) Z
 refine⟨V,Xo ?_ Y⟩;rintro g w' ⟨v,rfl,G,hv⟩;exact⟨v,rfl,I _ _ r G,VP.is v _ hv,fun j u c=>s j u c,XSt.other M G J⟩
theorem SGoal.call15 {p:Zo} {c:Nat} {x:Operand} {t:TypeId} (I:o.guard=none) (J:o.op=.call { callee:=.value (.func 57),args:=#[x],argTypes:=#[t] }) (L:vs.getD 15 none=none) (M:∀W W',B W->ZB W W'->B W') (U:∀W,B W->n0<=W.heap.size)
  (g:∀a:Act,(∀j d x,(ops[j]?).bind (·.dst)=some d->Region.waitsFor .any ops 15 j=true->vs.getD j none=some x->a.tmps.getD d undef=x)->a.eval x=.slice p bs.length c) (V:∀W,B W->zfq p c D d m bs W) :
  YGoal Tryz.prog ops Q a0 n B (VP vs) (XSt n0 K S bs es) 15 o:=fun a w _ _ _ _ _ h s Y Z _ h8=>
 ⟨J1 I,zai J (g a fun j d _ r hw g=>VP.at (W:=w) (s j _ (h8 j d r hw)) g) zjn ((V w h).mono fun _ _ ⟨⟨q,y,he,hs⟩,G⟩=>⟨_,he,_,rfl,M _ _ h G,Qe _ _ L,fun j u r=>s j u r,XSt.call15 Y Z G (U _ h) ⟨q,y,rfl⟩ hs⟩)⟩
theorem SGoal.call21 {p:Zo} {c:Nat} {x:Operand} {t:TypeId} (I:o.guard=none) (J:o.op=.call { callee:=.value (.func 57),args:=#[x],argTypes:=#[t] }) (L:vs.getD 21 none=none) (M:∀W W',B W->ZB W W'->B W') (U:∀W,B W->n0<=W.heap.size)
  (g:∀a:Act,(∀j d x,(ops[j]?).bind (·.dst)=some d->Region.waitsFor .any ops 21 j=true->vs.getD j none=some x->a.tmps.getD d undef=x)->a.eval x=.slice p es.length c) (V:∀W,B W->zfq p c D d m es W) :
  YGoal Tryz.prog ops Q a0 n B (VP vs) (XSt n0 K S bs es) 21 o:=fun a w _ _ _ _ _ h s Y Z _ h8=>
 ⟨J1 I,zai J (g a fun j d _ r hw g=>VP.at (W:=w) (s j _ (h8 j d r hw)) g) zjn ((V w h).mono fun _ _ ⟨⟨q,y,he,hs⟩,G⟩=>⟨_,he,_,rfl,M _ _ h G,Qe _ _ L,fun j u r=>s j u r,XSt.call21 Y Z G (U _ h) ⟨q,y,rfl⟩ hs⟩)⟩
theorem SGoal.box (g:o.guard=none) (h:o.op=.alloc 124) (r:vs.getD 23 none=none) (s:∀W W',B W->ZB W W'->B W') (t:∀W,B W->n0<=W.heap.size) :
  YGoal Tryz.prog ops Q a0 n B (VP vs) (XSt n0 K S bs es) 23 o:=fun _ _ _ _ _ _ _ c x G _ _ _=>
 ⟨J1 g,op_allocSt h ⟨_,rfl,s _ _ c (sal1 _ _),Qe _ _ r,fun j u I=>x j u I,XSt.box G (t _ c)⟩⟩
theorem SGoal.build {d1 d2 d5 d6:Nat} (G:o.guard=none) (I:o.op=.build 124 #[(1,.tmp d1),(2,.tmp d2),(5,.tmp d5),(6,.tmp d6)]) (J:vs.getD 22 none=none)
  (L:∀a:Act,(∀j d x,(ops[j]?).bind (·.dst)=some d->Region.waitsFor .any ops 22 j=true->vs.getD j none=some x->a.tmps.getD d undef=x)->a.tmps.getD d1 undef=Zi K/\a.tmps.getD d2 undef=.string S)
  (M:(ops[15]?).bind (·.dst)=some d5) (U:Region.waitsFor .any ops 22 15=true) (V:(ops[21]?).bind (·.dst)=some d6) (Y:Region.waitsFor .any ops 22 21=true) :
  YGoal Tryz.prog ops Q a0 n B (VP vs) (XSt n0 K S bs es) 22 o:=fun a w f _ _ _ _ Z r c _ _ g=>by
 have f15:=g 15 d5 M U;have f21:=g 21 d6 V Y;obtain⟨_,_,⟨_,⟨qb,yb,s⟩,_⟩,_⟩:=c.1 _ f15;obtain⟨_,_,⟨_,⟨qe,ye,t⟩,_⟩,_⟩:=c.2.1 _ f21;obtain⟨k1,k2⟩:=L a fun j d x h hw hx=>VP.at (W:=w) (r j _ (g j d h hw)) hx
 rw[s]at f15;rw[t]at f21;exact⟨J1 G,op_buildSt I k1 k2 s t ⟨_,rfl,Z,Qe _ _ J,fun j u h=>r j u h,XSt.build c f15 f21⟩⟩
end
def OSt (w:Zw) (p:Zo) (D d m:Nat) (k:Nat) (s:St D d (m+1)):Prop:=
 ∃(g o:Nat) (A K:Int) (S:Bs) (c:List (Ty D)) (xs:List (Ex D d)) (bs es:List (St D d m)) (pt px pb pe:Zo) (ct cx cb ce:Nat),s=(A,K,S,c,xs,bs,es)/\p=some ⟨g,o,none⟩ /\
  (ZK7 w g (o+k*7) (Zi A) (Zi K) (.string ⟨S.toArray⟩) (.slice pt c.length ct) (.slice px xs.length cx) (.slice pb bs.length cb) (.slice pe es.length ce)) /\
  (c.length<=1000000/\xs.length<=1000000) /\
  (∀j (h:j<c.length),∃u,zi3 w pt j u/\∀W,ZB w W->Zg 56 #[u] W fun e w'=>(∃u:V5,e=.returned (val5 u)/\(∀x∈zch u,x.oneCell'=true)/\∀W':Zw,(∀j,W.heap.size<=j->j<w'.heap.size->W'.heap[j]?=w'.heap[j]?)->TyValD W' D (val5 u) c[j])/\ZB W w') /\
  (∀j (h:j<xs.length),∃u,ExCell w px j u/\∀W,ZB w W->Zg 97 #[u] W fun e w'=>(∃u:V7,e=.returned (val7 u)/\(∀x∈za1 u,x.oneCell'=true)/\∀W':Zw,(∀j,W.heap.size<=j->j<w'.heap.size->W'.heap[j]?=w'.heap[j]?)->EV W' D d (val7 u) xs[j])/\ZB W w') /\
  (∀W,ZB w W->zfq pb cb D d m bs W)/\(∀W,ZB w W->zfq pe ce D d m es W)
def vO5 (g o k n c:Nat) (K:Int) (X:Zy) (vb ve:Value):List (Option Value):=
 [some (.slice (Zs g o) n c),some (Zi (k:Int)),some (.pointer (Zs g (o+k*7))),some (.pointer (Zs g (o+k*7+1))),some (Zi K),some (.slice (Zs g o) n c),some (Zi (k:Int)),some (.pointer (Zs g (o+k*7))),some (.pointer (Zs g (o+k*7+2))),some (.string X),
  some (.slice (Zs g o) n c),some (Zi (k:Int)),some (.pointer (Zs g (o+k*7))),some (.pointer (Zs g (o+k*7+5))),some vb,none,some (.slice (Zs g o) n c),some (Zi (k:Int)),some (.pointer (Zs g (o+k*7))),some (.pointer (Zs g (o+k*7+6))),some ve,none,none,none,none]
theorem SI.cell3 {wr W:Zw} {F:Zw->Prop} {n bx:Nat} {A K:Int} {X:Zy} {vt vx vb ve:Value} (h:SI wr F n bx (ownS A K X vt vx vb ve) W):W.cell? ⟨bx,3,none⟩=some vt:=by rw[Y0 h.1];rfl
theorem SI.cell4 {wr W:Zw} {F:Zw->Prop} {n bx:Nat} {A K:Int} {X:Zy} {vt vx vb ve:Value} (h:SI wr F n bx (ownS A K X vt vx vb ve) W):W.cell? ⟨bx,4,none⟩=some vx:=by rw[Y0 h.1];rfl
theorem at_done {wr c:Zw} {F:Zw->Prop} {bx:Nat} {K:Int} {X:Zy} {vt vx vb ve:Value} (A:Int) (h:SI wr F c.heap.size bx (ownS 0 K X vt vx vb ve) c):SI wr F (c.setCell ⟨bx,0,none⟩ (Zi A)).heap.size bx (ownS A K X vt vx vb ve) (c.setCell ⟨bx,0,none⟩ (Zi A)):=by
 have g:(c.setCell ⟨bx,0,none⟩ (Zi A)).heap.size=c.heap.size:=by simp
 rw[g];obtain⟨r,⟨s,x,G⟩,t,I⟩:=id h;refine h.step ?_ (t.setCell (p:=⟨bx,0,none⟩) s _) (by rw[g];exact Y5 _) fun j _ u=>Ja u
 rw[zhk r];rfl
theorem ost_run (p:Zo) (c:Nat) (D d m:Nat) (Z:List (St D d (m+1))) (w:Zw) (hn:Z.length<=1000000) (hP:∀k (hk:k<Z.length),OSt w p D d m k Z[k]):zfq p c D d (m+1) Z w:=by
 have HP:=J3 hP;clear hP;obtain⟨n,aj⟩:=Ze Z.length
 rw[zfq,<-aj];have ab:=J3 aj;rw[<-aj]at hn;clear aj;go_enter Tryz.func57,Tryz.ntmps57;go_wp2
 go_loopw [3,4] (fun o i wr=>∃(k:Nat) (vo:Value),i=Zi k/\vo=o/\k<=n/\ZH (OSts w.heap.size wr vo D d (m+1) (Z.take k))/\ZH (ZB w wr)) (fun _ i _=>n-(intOf i).toNat)
 case atStart=>exact⟨0,_,rfl,rfl,by omega,OSts.nil _ _ _ _ _,Zr⟩
 case round=>
  obtain⟨k,vo,rfl,rfl,hk,HO,U⟩:=hrel;by_cases aM:k<n
  rotate_left
  ·obtain rfl:k=n:=by omega
   have ag:¬(k:Int)<(k:Int):=by omega
   have HR:=J3 (fun W'=>HO.rows W');have hl:=J0 ab;obtain⟨es,aF,au,_⟩:=J0 HO;obtain⟨pv,cv,rfl,_⟩:=Jh au;rw[show Z.take k=Z by rw[hl,Yr]]at HR ⊢;rw[<-hl];rw[<-hl]at HR;clear HO HP au aF hl ab;go_wp2;go_ret;exact⟨⟨_,_,rfl,HR⟩,U⟩
  have ag:(k:Int)<(n:Int):=by omega
  have av:k<Z.length:=by have:=J0 ab;omega
  obtain⟨g,o,A,K,S,I,xs,bs,es,pt,px,pb,pe,ct,cx,cb,ce,ak,rfl,⟨a0,a1,a2,a3,a4,a5,a6⟩,⟨l1,l2⟩,hT,hX,aw,ax⟩:=HP k av;have ac:=J3 ak;have ad:=J3 av;obtain⟨X,ap⟩:=Ze (⟨S.toArray⟩:Zy)
  rw[<-ap]at a2;have ae:=J3 ap;have Y:ZH (∀W,ZB w W->ZK7 W g (o+k*7) (Zi A) (Zi K) (.string X) (.slice pt I.length ct) (.slice px xs.length cx) (.slice pb bs.length cb) (.slice pe es.length ce)):=fun W h=>⟨(h.cell (p:=⟨g,_,none⟩) (J2 a0)).trans a0,(h.cell (p:=⟨g,_,none⟩) (J2 a1)).trans a1,(h.cell (p:=⟨g,_,none⟩) (J2 a2)).trans a2,(h.cell (p:=⟨g,_,none⟩) (J2 a3)).trans a3,(h.cell (p:=⟨g,_,none⟩) (J2 a4)).trans a4,(h.cell (p:=⟨g,_,none⟩) (J2 a5)).trans a5,(h.cell (p:=⟨g,_,none⟩) (J2 a6)).trans a6⟩
  have HT:=J3 hT;have HX:=J3 hX;have CB:=J3 aw;have CE:=J3 ax;clear a0 a1 a2 a3 a4 a5 a6 hT hX aw ax ak ap HP;go_upto_region 5 with fail
  go_cut [5] (fun x wx=>∃(bx:Nat) (qb L:Zo) (yb M:Nat) (Wy:Zw),x=.pointer (Zs bx 0)/\Wy=wx/\ZH (SI wr (fun W'=>StRow W' D d m (.slice qb bs.length yb) bs/\StRow W' D d m (.slice L es.length M) es) Wy.heap.size bx (ownS 0 K X (Zz) (Zz) (.slice qb bs.length yb) (.slice L es.length M)) Wy))
  case first=>
   have hb:=J0 U;obtain⟨e0,e1,e2,e3,e4,e5,e6⟩:=Y wr hb;obtain⟨B,ah,ay,sB,_,al⟩:=Zx wr
   have cC:∀W,B W->W.cell? ⟨g,o+k*7+1,none⟩=some (Zi K)/\W.cell? ⟨g,o+k*7+2,none⟩=some (.string X)/\W.cell? ⟨g,o+k*7+5,none⟩=some (.slice pb bs.length cb)/\W.cell? ⟨g,o+k*7+6,none⟩=some (.slice pe es.length ce):=fun W h=>by
    obtain⟨e0,e1,e2,e3,e4,e5,e6⟩:=Y W (zax hb (ah W h));exact⟨e1,e2,e5,e6⟩
   have az:∀W,B W->zfq pb cb D d m bs W:=fun W h=>J0 CB W (zax hb (ah W h))
   have aA:∀W,B W->zfq pe ce D d m es W:=fun W h=>J0 CE W (zax hb (ah W h))
   clear Y HT HX CB CE ac ad ae ab HO U hb e0 e1 e2 e3 e4 e5 e6;go_wp2_with fail;refine zec (n:=98) (z:=24) Zk Zk Zk Zk rfl rfl rfl B (VP (vO5 g o k n c K X (.slice pb bs.length cb) (.slice pe es.length ce))) (XSt wr.heap.size K X bs es) (ay _ (Jb Zr)) (XSt.init _) ?each ?fin
   case each=>
    refine⟨?_,?_,?_,?_,?_,?_,?_,?_,?_,?_,?_,?_,?_,?_,?_,?_,?_,?_,?_,?_,?_,?_,?_,?_,?_,trivial⟩
    ·exact fun _=>Qp sB (by decide) (fun r W s G dep=>⟨J1 rfl,Jp rfl (show r.eval (.tmp 0)=Value.slice (Zs g o) n c from s 0 Zk) ⟨_,rfl,Zr,rfl⟩⟩)
    ·exact fun _=>Qp sB (by decide) (fun r W s G dep=>⟨J1 rfl,Jp rfl (show r.eval (.tmp 4)=Zi (k:Int)from s 4 Zk) ⟨_,rfl,Zr,rfl⟩⟩)
    ·exact fun _=>Qp sB (by decide) (fun r W s G dep=>⟨J1 rfl,zgg rfl (dep 0 14 _ Zk Zk rfl) (dep 1 15 _ Zk Zk rfl) ag ⟨_,rfl,Zr,rfl⟩⟩)
    ·exact fun _=>Qp sB (by decide) (fun r W s G dep=>⟨J1 rfl,zh0 (by decide) rfl (dep 2 16 _ Zk Zk rfl) ⟨_,rfl,Zr,rfl⟩⟩)
    ·exact fun _=>Qp sB (by decide) (fun r W s G dep=>⟨J1 rfl,op_loadN rfl (dep 3 17 _ Zk Zk rfl) (cC W G).1 ⟨_,rfl,Zr,rfl⟩⟩)
    ·exact fun _=>Qp sB (by decide) (fun r W s G dep=>⟨J1 rfl,Jp rfl (show r.eval (.tmp 0)=Value.slice (Zs g o) n c from s 0 Zk) ⟨_,rfl,Zr,rfl⟩⟩)
    ·exact fun _=>Qp sB (by decide) (fun r W s G dep=>⟨J1 rfl,Jp rfl (show r.eval (.tmp 4)=Zi (k:Int)from s 4 Zk) ⟨_,rfl,Zr,rfl⟩⟩)
    ·exact fun _=>Qp sB (by decide) (fun r W s G dep=>⟨J1 rfl,zgg rfl (dep 5 19 _ Zk Zk rfl) (dep 6 20 _ Zk Zk rfl) ag ⟨_,rfl,Zr,rfl⟩⟩)
    ·exact fun _=>Qp sB (by decide) (fun r W s G dep=>⟨J1 rfl,zh0 (by decide) rfl (dep 7 21 _ Zk Zk rfl) ⟨_,rfl,Zr,rfl⟩⟩)
    ·exact fun _=>Qp sB (by decide) (fun r W s G dep=>⟨J1 rfl,zaz rfl (dep 8 22 _ Zk Zk rfl) (cC W G).2.1 ⟨_,rfl,Zr,rfl⟩⟩)
    ·exact fun _=>Qp sB (by decide) (fun r W s G dep=>⟨J1 rfl,Jp rfl (show r.eval (.tmp 0)=Value.slice (Zs g o) n c from s 0 Zk) ⟨_,rfl,Zr,rfl⟩⟩)
    ·exact fun _=>Qp sB (by decide) (fun r W s G dep=>⟨J1 rfl,Jp rfl (show r.eval (.tmp 4)=Zi (k:Int)from s 4 Zk) ⟨_,rfl,Zr,rfl⟩⟩)
    ·exact fun _=>Qp sB (by decide) (fun r W s G dep=>⟨J1 rfl,zgg rfl (dep 10 24 _ Zk Zk rfl) (dep 11 25 _ Zk Zk rfl) ag ⟨_,rfl,Zr,rfl⟩⟩)
    ·exact fun _=>Qp sB (by decide) (fun r W s G dep=>⟨J1 rfl,zh0 (by decide) rfl (dep 12 26 _ Zk Zk rfl) ⟨_,rfl,Zr,rfl⟩⟩)
    ·exact fun _=>Qp sB (by decide) (fun r W s G dep=>⟨J1 rfl,ze3 rfl (dep 13 27 _ Zk Zk rfl) (cC W G).2.2.1 ⟨_,rfl,Zr,rfl⟩⟩)
    ·exact fun _=>SGoal.call15 rfl rfl rfl sB al (fun r dep=>(dep 14 28 _ Zk Zk rfl)) az
    ·exact fun _=>Qp sB (by decide) (fun r W s G dep=>⟨J1 rfl,Jp rfl (show r.eval (.tmp 0)=Value.slice (Zs g o) n c from s 0 Zk) ⟨_,rfl,Zr,rfl⟩⟩)
    ·exact fun _=>Qp sB (by decide) (fun r W s G dep=>⟨J1 rfl,Jp rfl (show r.eval (.tmp 4)=Zi (k:Int)from s 4 Zk) ⟨_,rfl,Zr,rfl⟩⟩)
    ·exact fun _=>Qp sB (by decide) (fun r W s G dep=>⟨J1 rfl,zgg rfl (dep 16 30 _ Zk Zk rfl) (dep 17 31 _ Zk Zk rfl) ag ⟨_,rfl,Zr,rfl⟩⟩)
    ·exact fun _=>Qp sB (by decide) (fun r W s G dep=>⟨J1 rfl,zh0 (by decide) rfl (dep 18 32 _ Zk Zk rfl) ⟨_,rfl,Zr,rfl⟩⟩)
    ·exact fun _=>Qp sB (by decide) (fun r W s G dep=>⟨J1 rfl,ze3 rfl (dep 19 33 _ Zk Zk rfl) (cC W G).2.2.2 ⟨_,rfl,Zr,rfl⟩⟩)
    ·exact fun _=>SGoal.call21 rfl rfl rfl sB al (fun r dep=>(dep 20 34 _ Zk Zk rfl)) aA
    ·exact fun _=>SGoal.build rfl rfl rfl (fun r dep=>⟨(dep 4 18 _ Zk Zk rfl),(dep 9 23 _ Zk Zk rfl)⟩) Zk Zk Zk Zk
    ·exact fun _=>SGoal.box rfl rfl rfl sB al
    ·exact fun h=>absurd rfl h
   case fin=>
    intro r W f hz aG s G hf hV hX;obtain⟨bx,qb,L,yb,M,eb,ev,aB,aC⟩:=XSt.done rfl hX (ah W G) (hf 23 5 Zk) (hf 22 36 Zk);refine⟨J1 rfl,op_storeSt rfl rfl eb ev aB ⟨rfl,?_⟩⟩;have aH:=J3 aC;rw[JZ hz rfl aG s];clear hf hV hX s aC aB sB al ah ay cC az aA G;simp only[List.foldl,Option.getD];rw[eb];go_wp2_with fail;go_meet
    case rel=>exact⟨bx,qb,L,yb,M,_,rfl,rfl,aH⟩
  case rest=>
   obtain⟨bx,qb,L,yb,M,Wy,rfl,rfl,HS⟩:=hcut;clear CB CE;go_upto_region 6 with fail
   go_cut [] (fun wx=>∃Wz:Zw,Wz=wx/\ZH (SI wr (fun W'=>StRow W' D d m (.slice qb bs.length yb) bs/\StRow W' D d m (.slice L es.length M) es) Wz.heap.size bx (ownS A K X (Zz) (Zz) (.slice qb bs.length yb) (.slice L es.length M)) Wz))
   case first=>
    have HD:=J3 (at_done A HS);obtain⟨i1,⟨i2,i3,i4⟩,i5,_⟩:=J0 HS;obtain⟨e0,e1,e2,e3,e4,e5,e6⟩:=Y Wy (zax U i5);have x0:Wy.cell? ⟨bx,0,none⟩=some (Zi 0):=by rw[Y0 i1];rfl
    have xf:=YH i1 0;clear i1 i2 i3 i4 i5 HS Y HT HX ac ad ae ab HO U;go_wp2_with fail;go_meet
    case rel=>exact⟨_,rfl,HD⟩
   case rest=>
    obtain⟨W5,rfl,am⟩:=hcut;clear HS;go_upto_block 2 with fail
    go_cut [] (fun wx=>∃(p4:Zo) (c4:Nat) (Wz:Zw),Wz=wx/\ZH (SI wr (fun W'=>(StRow W' D d m (.slice qb bs.length yb) bs/\StRow W' D d m (.slice L es.length M) es)/\TyRow W' D (.slice p4 I.length c4) I) Wz.heap.size bx (ownS A K X (.slice p4 I.length c4) (Zz) (.slice qb bs.length yb) (.slice L es.length M)) Wz))
    case first=>
     clear HX ac ad ae ab HO;go_wp2_with fail
     go_loopg [6] I.length (fun gk i wq=>∃(j:Nat) (q:Zo) (cq:Nat),i=Zi j/\j+gk=I.length/\ZH (OTys W5.heap.size wq (.slice q j cq) D (I.take j))/\ZH (SI wr (fun W'=>StRow W' D d m (.slice qb bs.length yb) bs/\StRow W' D d m (.slice L es.length M) es) W5.heap.size bx (ownS A K X (.slice q j cq) (Zz) (.slice qb bs.length yb) (.slice L es.length M)) wq))
     case atStart=>exact⟨0,none,0,rfl,by omega,OTys.nil _ _ _,am⟩
     case round=>
      obtain⟨j,q,cq,rfl,hj,aa,V⟩:=hrel;obtain⟨i1,⟨i2,i3,i4⟩,i5,_⟩:=J0 V;have J:=J3 (zax U i5);obtain⟨e0,e1,e2,e3,e4,e5,e6⟩:=Y _ J;have x3:=V.cell3;clear i1 i2 i3 i4 i5;by_cases ai:j<I.length
      ·obtain⟨u,⟨gt,ot,K',S',qn,qq,q3,nn,d1,ne,d2,n3,d3,rfl,rfl,a0,a1,a2,a3,a4⟩,HI⟩:=HT j ai;have b0:=(J.cell (p:=⟨gt,_,none⟩) (J2 a0)).trans a0;have b1:=(J.cell (p:=⟨gt,_,none⟩) (J2 a1)).trans a1;have b2:=(J.cell (p:=⟨gt,_,none⟩) (J2 a2)).trans a2;have b3:=(J.cell (p:=⟨gt,_,none⟩) (J2 a3)).trans a3;have b4:=(J.cell (p:=⟨gt,_,none⟩) (J2 a4)).trans a4;have aq:(j:Int)<(I.length:Int):=by omega
       have CL:=J3 (sround_ty V aa ai l1 (fun W h=>HI W (zax U h)));clear HI a0 a1 a2 a3 a4 aa V J HT Y am U;go_wp2_with fail
       go_region_law (first
        | (refine zbd (u:=.agg #[Zi K',.string S',.slice qn nn d1,.slice qq ne d2,.slice q3 n3 d3]) rfl 56 (.tmp 64) 31 rfl (by simp[Act.eval]) zev ?_;refine CL.mono ?_;rintro e w1 ⟨K2,S2,rn,re,rp,m1,y1,m2,y2,m3,y3,rfl,f1,f2,g',cap,W4,E,f4,f5,f6,f7⟩;refine⟨_,rfl,?_⟩)
        | refine zac rfl (.tmp 56) (.tmp 66) 29 rfl (by simp[Act.eval]) (by simp[Act.eval]) E ?_)
       all_goals
        go_wp2_with fail;go_roundg (I.length-(j+1))
        case measure=>omega
        case rel=>exact⟨j+1,_,_,by go_num,by omega,f6,f7⟩
      ·obtain rfl:j=I.length:=by omega
       have HM:=J3 (V.more (fun W' af=>aa.rows W' af));rw[Yr]at HM;have aq:¬(I.length:Int)<(I.length:Int):=by omega
       clear V aa J HT Y U am;go_wp2_with fail;go_meet
       case rel=>exact⟨q,cq,_,rfl,HM⟩
    case rest=>
     obtain⟨p4,c4,W6,rfl,an⟩:=hcut;clear am HT;go_upto_block 4 with fail
     go_cut [] (fun wx=>∃(p5:Zo) (c5:Nat) (Wz:Zw),Wz=wx/\ZH (SI wr (fun W'=>((StRow W' D d m (.slice qb bs.length yb) bs/\StRow W' D d m (.slice L es.length M) es)/\TyRow W' D (.slice p4 I.length c4) I)/\(ExRow W' D d (.slice p5 xs.length c5) xs/\ExCap W' D d (.slice p5 xs.length c5) xs)) Wz.heap.size bx (ownS A K X (.slice p4 I.length c4) (.slice p5 xs.length c5) (.slice qb bs.length yb) (.slice L es.length M)) Wz))
     case first=>
      clear ac ad ae ab HO;go_wp2_with fail
      go_loopg [7] xs.length (fun gk i wq=>∃(j:Nat) (q:Zo) (cq:Nat),i=Zi j/\j+gk=xs.length/\ZH (OExs W6.heap.size wq (.slice q j cq) D d (xs.take j))/\ZH (SI wr (fun W'=>(StRow W' D d m (.slice qb bs.length yb) bs/\StRow W' D d m (.slice L es.length M) es)/\TyRow W' D (.slice p4 I.length c4) I) W6.heap.size bx (ownS A K X (.slice p4 I.length c4) (.slice q j cq) (.slice qb bs.length yb) (.slice L es.length M)) wq))
      case atStart=>exact⟨0,none,0,rfl,by omega,OExs.nil _ _ _ _,an⟩
      case round=>
       obtain⟨j,q,cq,rfl,hj,aa,V⟩:=hrel;obtain⟨i1,⟨i2,i3,i4⟩,i5,_⟩:=J0 V;have J:=J3 (zax U i5);obtain⟨e0,e1,e2,e3,e4,e5,e6⟩:=Y _ J;have x4:=V.cell4;clear i1 i2 i3 i4 i5;by_cases ai:j<xs.length
       ·obtain⟨u,⟨gt,ot,A',K',N',S',qn,qq,q3,nn,d1,ne,d2,n3,d3,rfl,rfl,a0,a1,a2,a3,a4,a5,a6⟩,HI⟩:=HX j ai;have b0:=(J.cell (p:=⟨gt,_,none⟩) (J2 a0)).trans a0;have b1:=(J.cell (p:=⟨gt,_,none⟩) (J2 a1)).trans a1;have b2:=(J.cell (p:=⟨gt,_,none⟩) (J2 a2)).trans a2;have b3:=(J.cell (p:=⟨gt,_,none⟩) (J2 a3)).trans a3;have b4:=(J.cell (p:=⟨gt,_,none⟩) (J2 a4)).trans a4;have b5:=(J.cell (p:=⟨gt,_,none⟩) (J2 a5)).trans a5;have b6:=(J.cell (p:=⟨gt,_,none⟩) (J2 a6)).trans a6;have aq:(j:Int)<(xs.length:Int):=by omega
        have CL:=J3 (sround_ex V aa ai l2 (fun W h=>HI W (zax U h)));clear HI a0 a1 a2 a3 a4 a5 a6 aa V J HX Y an U;go_wp2_with fail
        go_region_law (first
         | (refine zbd (u:=.agg #[Zi A',Zi K',Zi N',.string S',.slice qn nn d1,.slice qq ne d2,.slice q3 n3 d3]) rfl 97 (.tmp 88) 62 rfl (by simp[Act.eval]) ownx_enter ?_;refine CL.mono ?_;rintro e w1 ⟨A2,K2,N2,S2,rn,re,rp,m1,y1,m2,y2,m3,y3,rfl,f1,f2,g',cap,W4,E,f4,f5,f6,f7⟩;refine⟨_,rfl,?_⟩)
         | refine zac rfl (.tmp 80) (.tmp 90) 60 rfl (by simp[Act.eval]) (by simp[Act.eval]) E ?_)
        all_goals
         go_wp2_with fail;go_roundg (xs.length-(j+1))
         case measure=>omega
         case rel=>exact⟨j+1,_,_,by go_num,by omega,f6,f7⟩
       ·obtain rfl:j=xs.length:=by omega
        have HM:=J3 (V.more (fun W' af=>And.intro (aa.rows W' af) (aa.caps W' af)));rw[Yr]at HM;have aq:¬(xs.length:Int)<(xs.length:Int):=by omega
        clear V aa J HX Y U an;go_wp2_with fail;go_meet
        case rel=>exact⟨q,cq,_,rfl,HM⟩
     case rest=>
      obtain⟨p5,c5,W7,rfl,aD⟩:=hcut;clear an HX;obtain⟨i1,⟨i2,i3,i4⟩,i5,i6⟩:=J0 aD;have CZ:ZL7 W7 bx (Zi A) (Zi K) (.string X) (.slice p4 I.length c4) (.slice p5 xs.length c5) (.slice qb bs.length yb) (.slice L es.length M):=
       ⟨by rw[Y0 i1];rfl,by rw[Y0 i1];rfl,by rw[Y0 i1];rfl,by rw[Y0 i1];rfl,by rw[Y0 i1];rfl,by rw[Y0 i1];rfl,by rw[Y0 i1];rfl⟩
      obtain⟨z0,z1,z2,z3,z4,z5,z6⟩:=CZ;have ar:=J0 ad;obtain⟨g',cap,W4,E,ao,aI,aJ,aE⟩:=append_sts (u:=(Zi A,Zi K,.string X,.slice p4 I.length c4,.slice p5 xs.length c5,.slice qb bs.length yb,.slice L es.length M)) (t:=Z[k]'ar) HO U.size i5 (fun W' af=>by
       obtain⟨⟨⟨r3,r4⟩,r1⟩,r2⟩:=i6 W' fun j j1 j2 _=>af j j1 j2
       have hx:X=⟨S.toArray⟩:=J0 ae;have ak:Z[k]'ar=(A,K,S,I,xs,bs,es):=J0 ac;rw[ak,hx];exact⟨p4,p5,qb,L,c4,c5,yb,M,rfl,r1,r2,r3,r4⟩) (fun x hx=>by
       simp[za1]at hx;rcases hx with rfl|rfl|rfl|rfl|rfl|rfl|rfl <;> rfl) (by rw[YE];omega)
      rw[YE,Xz (by omega)]at E ao;rw[<-zbb ar]at ao;have HE:=J3 E;have aK:=J3 ao;have aL:=J3 (U.trans (aE.mono (Y5 _)));clear E ao aI aJ aE i1 i2 i3 i4 i5 i6 HO aD Y ac ad ae ab U;go_wp2_with (at_builtin;refine J4 rfl (.tmp 93) (.tmp 95) 32 rfl rfl rfl HE ?_;clear HE);go_roundw
      case rel=>exact⟨k+1,_,by go_num,rfl,by omega,aK,aL⟩
      case measure=>simp[intOf];omega
theorem owns_any (D d:Nat):∀m,OwnSAt D d m
 | 0=>fun t p c w _ _=>by
  match t with
  | []=>
   have h:=ost_run p c D d 0 [] w (by simp) fun k Z=>absurd Z (by simp)
   unfold zfq at h ⊢;exact h.mono fun e w' ⟨⟨q,cq,he,_⟩,hb⟩=>⟨⟨q,cq,he,fun _ _=>⟨q,cq,rfl⟩⟩,hb⟩
  | s::_=>exact nomatch s
 | m+1=>fun t p c w I hz=>by
  have IH:=owns_any D d m;have hlen:t.length<=zeh D d (m+1) t:=by
   clear hz I;rw[zeh]
   induction t with
   | nil=>simp
   | cons x r ih=>
    simp only[Yf,YM,Yk];omega
  refine ost_run p c D d m t w (by omega) fun k Z=>?_
  obtain⟨p1,c1,e,hp⟩:=I;injection e with e1 _ _
  subst e1;obtain⟨g,o,vt,vx,vb,ve,rfl,a0,a1,a2,a3,a4,a5,a6,L,M,U,V⟩:=hp k t[k] (by simp);have aa:1+(zb4 t[k]).length+szL D (sT t[k])+zdp D d (sX t[k])+zeh D d m (sB t[k])+zeh D d m (sE t[k])<=1000000:=by
   refine Yh ?_ hz;rw[zeh];exact zbu (YF.2 ⟨t[k],by simp,rfl⟩)
  generalize t[k]=s at a0 a1 a2 a3 a4 a5 a6 L M U V aa ⊢;obtain⟨A,K,S,Y,xs,bs,es⟩:=s;dsimp only[sAt,zii,zb4,sT,sX,sB,sE]at *;obtain⟨pt,ct,rfl⟩:=L.slice;obtain⟨px,cx,rfl⟩:=M.1.slice;obtain⟨pb,cb,rfl⟩:=U.slice;obtain⟨pe,ce,rfl⟩:=V.slice;have h4:=Yh (zbh _ Y) (zc3 _ Y);have h5:=zmt xs;refine⟨g,o,A,K,S,Y,xs,bs,es,pt,px,pb,pe,ct,cx,cb,ce,rfl,rfl,⟨a0,a1,a2,a3,a4,a5,a6⟩,⟨by omega,by omega⟩,fun j J=>?_,fun j J=>?_,fun W G=>IH bs pb cb W (StRow.below G m U) (by omega),fun W G=>IH es pe ce W (StRow.below G m V) (by omega)⟩
  ·obtain⟨u,hu,I⟩:=L.at j J;have ab:=zdk (Ys J);exact⟨u,hu,fun W G=>own_any D _ u W (TyValD.below G I) (by omega)⟩
  ·obtain⟨u,hu,I⟩:=M.1.at j J;have ab:=zlt (Ys J);exact⟨u,hu,fun W G=>ownx_any D d _ u W (ExValD.below G I) (by omega)⟩
end Go.Proofs.YtdcbglnhhbmpgaaGreatDoor
