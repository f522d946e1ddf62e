import Derived.Deep.AppendLies
import Derived.Deep.Upon
import Derived.Test.YtdcbglnhhbmpgaaGreatDoorQEqG
import Derived.Test.YtdcbglnhhbmpgaaGreatDoorQRunsC
import Derived.Deep.DeepCutAuto
set_option maxHeartbeats 4000000
set_option maxRecDepth 100000
namespace Go.Proofs.YtdcbglnhhbmpgaaGreatDoor
open Go Go.RowKit Lx
def Fr (B:Nat) (o:Option Nat) (W:Zw) (P:Zw->Prop):Prop:=∀W':Zw,(∀j,B<=j->j<W.heap.size->some j≠o->W'.heap[j]?=W.heap[j]?)->P W'
theorem Fr.step {B:Nat} {o c:Option Nat} {W r:Zw} {P:Zw->Prop} (h:Fr B o W P) (J:W.heap.size<=r.heap.size) (u:∀j,j<W.heap.size->some j≠o->r.heap[j]?=W.heap[j]?) (s:c=o∨∀g,c=some g->W.heap.size<=g):Fr B c r P:=fun W' x=>h W' fun j G I t=>by
 rw[x j G (by omega) ?_,u j I t];rcases s with rfl|s
 ·exact t
 ·intro e;have:=s j e.symm;omega
abbrev V5:Type:=Value×Value×Value×Value×Value
def zch (u:V5):List Value:=[u.1,u.2.1,u.2.2.1,u.2.2.2.1,u.2.2.2.2]
def val5 (u:V5):Value:=.agg #[u.1,u.2.1,u.2.2.1,u.2.2.2.1,u.2.2.2.2]
theorem cells5_at:∀(es:List V5) (j i:Nat) (u:V5) (c:Value),es[j]?=some u->(zch u)[i]?=some c->(es.flatMap zch)[j*5+i]?=some c
 | [],j,i,u,c,h,_=>by simp at h
 | x::r,0,i,u,c,h,g=>by
  simp at h;subst h;have s:i<(zch x).length:=(YI.1 g).1;rw[X6,show 0*5+i=i by omega,YC s];exact g
 | x::r,j+1,i,u,c,h,g=>by
  have t:=cells5_at r j i u c (by simpa using h) g;rw[X6,Yv (by simp[zch];omega),show(j+1)*5+i-(zch x).length=j*5+i by simp[zch];omega];exact t
def OTys (B:Nat) (W:Zw) (v:Value) (d:Nat) (c:List (Ty d)):Prop:=
 ∃es:List V5,es.length=c.length/\W.ownsRow B 31 5 v c.length (es.flatMap zch)/\∀(j:Nat) (u:V5) (t:Ty d),es[j]?=some u->c[j]?=some t->Fr B v.ownBlock W (fun W'=>TyValD W' d (val5 u) t)
theorem OTys.nil (B:Nat) (W:Zw) (d:Nat):OTys B W (Zz) d []:=⟨[],rfl,YU _ _ _ _,fun j u t h=>by simp at h⟩
theorem OTys.row {B:Nat} {W:Zw} {v:Value} {c:List (Ty 0)}:OTys B W v 0 c->c=[]:=fun _=>by
 cases c with
 | nil=>rfl
 | cons t _=>exact nomatch t
theorem zfn {W W':Zw} {g i:Nat} (h:W'.heap[g]?=W.heap[g]?):W'.cell? ⟨g,i,none⟩=W.cell? ⟨g,i,none⟩:=World.cell?_of_block h
theorem Jh {W:Zw} {B e size n:Nat} {v:Value} {xs:List Value} (h:W.ownsRow B e size v n xs):∃p c,v=.slice p n c/\n<=c:=by
 rcases h.2 with⟨rfl,j⟩|⟨g,cap,cur,rfl,_,_,r,_⟩
 ·exact⟨none,0,by rw[j],by omega⟩
 ·exact⟨_,_,rfl,r⟩
theorem OTys.rows {B:Nat} {W:Zw} {v:Value}:∀{d:Nat} {r:List (Ty d)},OTys B W v d r->∀W':Zw,(∀j,B<=j->j<W.heap.size->W'.heap[j]?=W.heap[j]?)->TyRow W' d v r
 | 0,r,h,W',_=>by
  obtain rfl:=h.row;obtain⟨es,_,s,_⟩:=h;obtain⟨p,c,rfl,_⟩:=Jh s;exact⟨p,c,rfl⟩
 | d+1,r,⟨es,hl,s,he⟩,W',G=>by
  obtain⟨p,c,rfl,hc⟩:=Jh s;refine⟨p,c,rfl,fun j t I=>?_⟩;have hj:j<r.length:=(YI.1 I).1;have hu:es[j]?=some es[j]:=by simp
  have L:=he j _ t hu I W' fun i M U _=>G i M U
  obtain⟨pn,pe,pp,cn,ce,cp,e,V,Y,Z⟩:=L;have e':#[es[j].1,es[j].2.1,es[j].2.2.1,es[j].2.2.2.1,es[j].2.2.2.2]=#[Zi t.1,.string ⟨t.2.1.toArray⟩,.slice pn t.2.2.1.length cn,.slice pe t.2.2.2.1.length ce,.slice pp t.2.2.2.2.length cp]:=by
   unfold val5 at e;injection e
  have J:[es[j].1,es[j].2.1,es[j].2.2.1,es[j].2.2.2.1,es[j].2.2.2.2]=[Zi t.1,.string ⟨t.2.1.toArray⟩,.slice pn t.2.2.1.length cn,.slice pe t.2.2.2.1.length ce,.slice pp t.2.2.2.2.length cp]:=congrArg Array.toList e';simp only[List.cons.injEq,and_true]at J;obtain⟨q0,q1,q2,q3,q4⟩:=J;rcases s.2 with⟨_,h0⟩|⟨g,cap,cur,e3,hb,hg,_⟩
  ·omega
  ·injection e3 with e4 _ _
   subst e4;have aa:=(Y8.1 hg).1;have u:∀i x,(zch es[j])[i]?=some x->W'.cell? ⟨g,0+j*5+i,none⟩=some x:=fun i x hx=>by
    rw[zfn (G g hb aa),X3];have:=s.cells (g:=g) rfl _ _ (cells5_at es j i _ x hu hx);rwa[addr_add]at this
   exact⟨g,0,_,_,_,rfl,(by have:=u 0 _ rfl;rw[q0]at this;simpa using this),(by have:=u 1 _ rfl;rw[q1]at this;exact this),(by have:=u 2 _ rfl;rw[q2]at this;exact this),(by have:=u 3 _ rfl;rw[q3]at this;exact this),(by have:=u 4 _ rfl;rw[q4]at this;exact this),V,Y,Z⟩
theorem info_ty:(Tryz.prog.info? 31).map (fun i=>(i.zero,i.size,i.bytes))=some (some (.agg #[Zi 0,.string ⟨#[]⟩,Zz,Zz,Zz]),5,96):=by kernel_rfl
theorem zjk {B d:Nat} {wr c:Zw} {v:Value} {r:List (Ty d)} {t:Ty d} {u:V5} (h:OTys B wr v d r) (hB:B<=wr.heap.size) (U:ZB wr c) (hu:∀W':Zw,(∀j,wr.heap.size<=j->j<c.heap.size->W'.heap[j]?=c.heap[j]?)->TyValD W' d (val5 u) t) (h1:∀x∈zch u,x.oneCell'=true) (hl:r.length<=1000000) :
  ∃(g cap:Nat) (G:Zw),(Builtin.append_ #[29,29] 29 #[v,.slice (Zs c.heap.size 0) 1 1]).run Tryz.prog (c.alloc (.cells #[u.1,u.2.1,u.2.2.1,u.2.2.2.1,u.2.2.2.2] 31))=.ok (.slice (Zs g 0) (r.length+1) cap) G /\
   OTys B G (.slice (Zs g 0) (r.length+1) cap) d (r++[t])/\c.heap.size<=G.heap.size/\(∀j,j<c.heap.size->some j≠v.ownBlock->G.heap[j]?=c.heap[j]?)/\Below B wr G:=by
 obtain⟨es,aa,ho,he⟩:=h;obtain⟨i0,V,ad,ae,af⟩:=Xx info_ty;have ag:=U.size;have ah:c.ownsRow B 31 5 v r.length (es.flatMap zch):=ho.kept (Je U) (by cases v.ownBlock <;> simp);obtain⟨g,cap,G,hr,ai,Y,aj,_⟩:=run_append_lies (P:=Tryz.prog) (c.alloc (.cells #[u.1,u.2.1,u.2.2.1,u.2.2.2.1,u.2.2.2.2] 31)) 29 29 B 31 i0 (.agg #[Zi 0,.string ⟨#[]⟩,Zz,Zz,Zz]) 5 96 Tryz.underlying29 V ad ae af rfl (by decide) v r.length _
  (ah.alloc _) ⟨c.heap.size,0,none⟩ 1 1 (zch u) rfl
  (fun j x hx=>by rw[addr_add,Ya _ _ _ _ rfl,<-hx];simp[zch]) h1 (by omega) (by unfold maxLen;omega) (by omega) (by simp;omega) (c.heap.size+1) (by simp)
 have ab:∀k,v.ownBlock=some k->B<=k/\k<wr.heap.size:=ho.lt
 have an:c.heap.size+1<=G.heap.size:=by have:=Y.size;simpa using this
 have Z:∀j,j<c.heap.size->some j≠v.ownBlock->G.heap[j]?=c.heap[j]?:=fun j I L=>(Y.block j (by simp;omega) L).trans (((Yu c.heap.size c).alloc (Y5 _) _).block j I)
 have ac:(some g=v.ownBlock)∨∀g2,some g=some g2->c.heap.size<=g2:=by
  rcases aj with e|e
  ·exact .inl e.symm
  ·exact .inr fun g2 M=>by cases M;omega
 refine⟨g,cap,G,hr,⟨es++[u],by simp[aa],by simpa[zch,YO]using ai,fun j x s I J=>?_⟩,by omega,Z,?_⟩
 ·show Fr B (some g) G _;rcases YW j r.length with ak|al
  ·rw[YC (by omega)]at I;rw[YC ak]at J;refine(he j x s I J).step (by omega) (fun i V L=>?_) ?_
   ·rw[Z i (by omega) L];exact U.block i V
   ·rcases ac with e|e
    ·exact .inl e
    ·exact .inr fun g2 M=>Yh ag (e g2 M)
  ·rw[Yv (by omega)]at I;rw[Yv al]at J;have ej:j-r.length=0:=by
    rcases X1 (j-r.length)with e|e
    ·exact e
    ·rw[X9 (by simp;omega)]at J;cases J
   rw[ej]at J;rw[aa,ej]at I;simp at I J;subst I J;intro W' am;refine hu W' fun i h2 h3=>?_
   have L:some i≠v.ownBlock:=fun e=>by have:=(ab i e.symm).2;omega
   rw[am i (by omega) (by omega) ?_,Z i h3 L];rcases ac with e|e
   ·rw[e];exact L
   ·intro M;have:=e i M.symm;omega
 ·refine((U.mono hB).alloc (by omega) _).grown Y (by simp;omega) fun k ek=>(ab k ek).1
theorem zmf {W:Zw} {pn:Zo} {ns:List Bs} {cn:Nat} (h:SRow W (.slice pn ns.length cn) ns) (hl:ns.length<=1000000) :
  ∃(p:Zo) (c:Nat) (W':Zw),(Builtin.append_ #[27,27] 27 #[Zz,.slice pn ns.length cn]).run Tryz.prog W=.ok (.slice p ns.length c) W'/\ZB W W' /\
   ∀r:Zw,(∀j,W.heap.size<=j->j<W'.heap.size->r.heap[j]?=W'.heap[j]?)->SRow r (.slice p ns.length c) ns:=by
 obtain⟨i0,L,M,U,V⟩:=Xx zi0;obtain⟨p,c,e,hp⟩:=h;injection e with Y e2 Z
 subst Y Z;rcases X1 ns.length with J|J
 ·obtain rfl:=YB J;have hs:Src Tryz.prog i0.size 27 (.slice pn 0 cn) 0 [] W:=by
   cases pn with
   | none=>exact Src.ofNil W Tryz.underlying27 cn
   | some a=>exact Src.ofSlice W Tryz.underlying27 a 0 cn [] (by simp) (fun j u hu=>by simp at hu) (fun u hu=>by simp at hu)
  exact⟨none,0,W,run_append_nothing W 27 27 27 9 i0 Tryz.underlying27 L none 0 0 (Y5 _) _ hs,Zr,fun r _=>⟨none,0,rfl,fun j t G=>by simp at G⟩⟩
 ·obtain⟨g,o,rfl,_⟩:=hp 0 ns[0] (by simp);have aa:∀j v,(za8 ns)[j]?=some v->W.cell? ((⟨g,o,none⟩:Addr).add j)=some v:=fun j v x=>by
   rw[za8,Xd]at x;rcases I:ns[j]? with _|s
   ·rw[I]at x;cases x
   ·rw[I]at x;obtain⟨g',o',e,a⟩:=hp j s I;obtain⟨rfl,rfl⟩:g=g'/\o=o':=by simpa using e
    rw[YT,a];simpa using x
  have hr:=run_append_nil (P:=Tryz.prog) W 27 27 9 i0 (.string ⟨#[]⟩) Tryz.underlying27 L M ⟨g,o,none⟩ ns.length cn (za8 ns) (by rw[U];simp[za8]) aa J (by omega) (by rw[V];omega);refine⟨_,_,_,hr,(zhh (Yu W.heap.size W)).alloc (Y5 _) _,fun r ab=>⟨_,_,rfl,fun j t G=>⟨W.heap.size,0,rfl,?_⟩⟩⟩;have I:j<ns.length:=(YI.1 G).1;have hb:r.heap[W.heap.size]?=some (.cells ((za8 ns).toArray++Builtin.zeroCells (Value.string ⟨#[]⟩).cells (grownCap W ns.length 0 9-ns.length)) 9):=by
   rw[ab _ (Y5 _) (by simp)];have:=Jm W.drew (.cells ((za8 ns).toArray++Builtin.zeroCells (Value.string ⟨#[]⟩).cells (grownCap W ns.length 0 9-ns.length)) 9);simpa using this
  rw[Y0 hb,X3,Array.getElem?_append_left (by simp[za8];omega)];simp[za8,G]
theorem info_bool:(Tryz.prog.info? 4).map (fun i=>(i.zero,i.size,i.bytes))=some (some (.bool false),1,1):=by kernel_rfl
def boolV (bs:List Bool):List Value:=bs.map .bool
theorem append_bools {W:Zw} {pn:Zo} {ns:List Bool} {cn:Nat} (h:BRow W (.slice pn ns.length cn) ns) (hl:ns.length<=1000000) :
  ∃(p:Zo) (c:Nat) (W':Zw),(Builtin.append_ #[28,28] 28 #[Zz,.slice pn ns.length cn]).run Tryz.prog W=.ok (.slice p ns.length c) W'/\ZB W W' /\
   ∀r:Zw,(∀j,W.heap.size<=j->j<W'.heap.size->r.heap[j]?=W'.heap[j]?)->BRow r (.slice p ns.length c) ns:=by
 obtain⟨i0,L,M,U,V⟩:=Xx info_bool;obtain⟨p,c,e,hp⟩:=h;injection e with Y e2 Z
 subst Y Z;rcases X1 ns.length with J|J
 ·obtain rfl:=YB J;have hs:Src Tryz.prog i0.size 28 (.slice pn 0 cn) 0 [] W:=by
   cases pn with
   | none=>exact Src.ofNil W Tryz.underlying28 cn
   | some a=>exact Src.ofSlice W Tryz.underlying28 a 0 cn [] (by simp) (fun j u hu=>by simp at hu) (fun u hu=>by simp at hu)
  exact⟨none,0,W,run_append_nothing W 28 28 28 4 i0 Tryz.underlying28 L none 0 0 (Y5 _) _ hs,Zr,fun r _=>⟨none,0,rfl,fun j t G=>by simp at G⟩⟩
 ·obtain⟨g,o,rfl,_⟩:=hp 0 ns[0] (by simp);have aa:∀j v,(boolV ns)[j]?=some v->W.cell? ((⟨g,o,none⟩:Addr).add j)=some v:=fun j v x=>by
   rw[boolV,Xd]at x;rcases I:ns[j]? with _|s
   ·rw[I]at x;cases x
   ·rw[I]at x;obtain⟨g',o',e,a⟩:=hp j s I;obtain⟨rfl,rfl⟩:g=g'/\o=o':=by simpa using e
    rw[YT,a];simpa using x
  have hr:=run_append_nil (P:=Tryz.prog) W 28 28 4 i0 (.bool false) Tryz.underlying28 L M ⟨g,o,none⟩ ns.length cn (boolV ns) (by rw[U];simp[boolV]) aa J (by omega) (by rw[V];omega);refine⟨_,_,_,hr,(zhh (Yu W.heap.size W)).alloc (Y5 _) _,fun r ab=>⟨_,_,rfl,fun j t G=>⟨W.heap.size,0,rfl,?_⟩⟩⟩;have I:j<ns.length:=(YI.1 G).1;have hb:r.heap[W.heap.size]?=some (.cells ((boolV ns).toArray++Builtin.zeroCells (Value.bool false).cells (grownCap W ns.length 0 4-ns.length)) 4):=by
   rw[ab _ (Y5 _) (by simp)];have:=Jm W.drew (.cells ((boolV ns).toArray++Builtin.zeroCells (Value.bool false).cells (grownCap W ns.length 0 4-ns.length)) 4);simpa using this
  rw[Y0 hb,X3,Array.getElem?_append_left (by simp[boolV];omega)];simp[boolV,G]
theorem J4 {P:Program} {ops:Array Oper} {rest:List Oper} {o:Oper} {a:Act} {w:Zw} {Q:Exit->Act->Zw->Prop} (g:o.guard=none) (s x:Operand) (t:TypeId) (j:o.op=.call { callee:=.builtin .append,args:=#[s,x],argTypes:=#[t,t] })
  {v u c:Value} {w':Zw} (r:a.eval s=v) (G:a.eval x=u) (I:(Builtin.append_ #[t,t] o.type #[v,u]).run P w=.ok c w') (h:wpList P ops Q rest (a.put o.dst c) w'):wpList P ops Q (o::rest) a w:=by
 refine wpList_plain g fun K J=>?_
 unfold Oper.wp;simp[execOp,j,resolve,invoke,builtin,r,G,I,Result.andThen];exact J _ _ h
def OwnAt (d:Nat):Prop:=∀(t:Ty d) (v:Value) (w:Zw),TyValD w d v t->szD d t<=1000000 ->
 Zg 56 #[v] w fun e w'=>(∃u:V5,e=.returned (val5 u)/\(∀x∈zch u,x.oneCell'=true)/\∀W':Zw,(∀j,w.heap.size<=j->j<w'.heap.size->W'.heap[j]?=w'.heap[j]?)->TyValD W' d (val5 u) t)/\ZB w w'
abbrev ownO (K:Int) (S:Zy) (vn ve vp:Value):Obj:=.cells #[Zi K,.string S,vn,ve,vp] 31
theorem zhk {W:Zw} {b i:Nat} {c:Array Value} {t:TypeId} {g:Nat×Nat} (h:W.heap[b]?=some (.cells c t g)) (v:Value):(W.setCell ⟨b,i,none⟩ v).heap[b]?=some (.cells (c.setIfInBounds i v) t g):=by
 obtain⟨j,r⟩:=Y8.1 h;show(W.heap.modify b _)[b]?=_;rw[Array.getElem?_eq_getElem (by rw[Array.size_modify];exact j),Array.getElem_modify_self,r]
 rfl
theorem OTys.move {B:Nat} {W W':Zw} {v:Value} {d:Nat} {c:List (Ty d)} (h:OTys B W v d c) (hs:W'.heap.size=W.heap.size) (s:∀j,B<=j->W'.heap[j]?=W.heap[j]?):OTys B W' v d c:=by
 obtain⟨es,J,x,he⟩:=h;refine⟨es,J,⟨x.1,?_⟩,fun j u t L M U V=>he j u t L M U fun i G h4 Y=>?_⟩
 ·rcases x.2 with Z|⟨g,cap,cur,e,I,hg,r⟩
  ·exact .inl Z
  ·exact .inr ⟨g,cap,cur,e,I,(s g I).trans hg,r⟩
 ·rw[V i G (by omega) Y,s i G]
theorem zc2 (w:Zw) (O:Obj) (j:Nat) (h:j<w.heap.size):(w.alloc O).heap[j]?=w.heap[j]?:=((Yu w.heap.size w).alloc (Y5 _) O).block j h
theorem Ja {W:Zw} {b i j:Nat} {v:Value} (h:j≠b):(W.setCell ⟨b,i,none⟩ v).heap[j]?=W.heap[j]?:=XC _ _ _ _ h
theorem zmh:∀{d:Nat} {W:Zw} {u:V5} {t:Ty d},TyValD W d (val5 u) t->∃(G:Int) (I:Zy) (J L M:Zo) (m1 U m2 V m3 Y:Nat),u=(Zi G,.string I,.slice J m1 U,.slice L m2 V,.slice M m3 Y)
 | 0,_,_,_,h=>h.elim
 | d+1,W,(c,g,j,r,s),t,h=>by
  obtain⟨pn,pe,pp,cn,ce,cp,e,_⟩:=h;have Z:#[c,g,j,r,s]=#[Zi t.1,.string ⟨t.2.1.toArray⟩,.slice pn t.2.2.1.length cn,.slice pe t.2.2.2.1.length ce,.slice pp t.2.2.2.2.length cp]:=by
   unfold val5 at e;injection e
  have x:[c,g,j,r,s]=[Zi t.1,.string ⟨t.2.1.toArray⟩,.slice pn t.2.2.1.length cn,.slice pe t.2.2.2.1.length ce,.slice pp t.2.2.2.2.length cp]:=congrArg Array.toList Z;simp only[List.cons.injEq,and_true]at x;obtain⟨rfl,rfl,rfl,rfl,rfl⟩:=x;exact⟨_,_,_,_,_,_,_,_,_,_,_,rfl⟩
theorem zev (args:Array Value) (w:Zw):Sem.run Tryz.prog (callFunc 56 args) w=.ok (.enter 56 args) w:=by kernel_rfl
theorem zbb {α:Type} {l:List α} {k:Nat} (h:k<l.length):l.take (k+1)=l.take k++[l[k]]:=Yq h
theorem own_step (d:Nat) (a9:OwnAt d):OwnAt (d+1):=fun t v w aQ hz=>by
 obtain⟨pn,pe,pp,cn,ce,cp,rfl,a',ba,bb⟩:=aQ;obtain⟨K,S,ns,es,r⟩:=t;have b3:1+S.length+ns.length+es.length+zgm ns+szL d r<=1000000:=hz;dsimp only at *;have aR:=Yh (zbh _ r) (zc3 _ r);obtain⟨Z,aH⟩:∃O:Obj,O=ownO K ⟨S.toArray⟩ (.slice pn ns.length cn) (.slice pe es.length ce) (.slice pp r.length cp):=⟨_,rfl⟩
 obtain⟨zO,aS⟩:∃O:Obj,O=ownO 0 ⟨#[]⟩ (Zz) (Zz) (Zz):=⟨_,rfl⟩
 obtain⟨aI,aw⟩:∃O:Obj,O=ownO K ⟨S.toArray⟩ (Zz) (Zz) (Zz):=⟨_,rfl⟩
 obtain⟨ax,ad⟩:=Ze (((w.alloc Z).alloc zO).alloc aI:Zw)
 have bD:ax.heap.size=w.heap.size+3:=by rw[ad];simp
 have aJ:ZB w ax:=by rw[ad];exact((Za _ _).alloc (by simp) _).alloc (by simp;omega) _
 have t3:ax.heap[w.heap.size]?=some Z:=by
  rw[ad,zc2 _ _ _ (by simp;omega),zc2 _ _ _ (by simp)];exact Jm w Z
 have z3:ax.heap[w.heap.size+1]?=some zO:=by
  rw[ad,zc2 _ _ _ (by simp)];simpa using Jm (w.alloc Z) zO
 have aT:ax.heap[w.heap.size+2]?=some aI:=by
  rw[ad];simpa using Jm ((w.alloc Z).alloc zO) aI
 -- the names
 obtain⟨s,G,V,bc,ae,be⟩:=zmf (a'.below aJ) (by omega);have bE:=ae.size;have aK:V.heap[w.heap.size+2]?=some aI:=(ae.block _ (by omega)).trans aT;obtain⟨I,aa⟩:=Ze (V.setCell ⟨w.heap.size+2,2,none⟩ (.slice s ns.length G):Zw)
 have bF:I.heap.size=V.heap.size:=by rw[aa];simp
 have ay:I.heap[w.heap.size+2]?=some (ownO K ⟨S.toArray⟩ (.slice s ns.length G) (Zz) (Zz)):=by rw[aa,zhk (by rw[aK,aw])];rfl
 have az:∀j,j≠w.heap.size+2->I.heap[j]?=V.heap[j]?:=fun j M=>by rw[aa];exact Ja M
 have aL:ZB w I:=by rw[aa];exact(Zn aJ ae).setCell (p:=⟨w.heap.size+2,2,none⟩) (by show w.heap.size<=w.heap.size+2;omega) _
 -- the truths
 obtain⟨J,c3,ab,bf,af,bg⟩:=append_bools (ba.below aL) (by omega);have bG:=af.size;have aM:ab.heap[w.heap.size+2]?=some (ownO K ⟨S.toArray⟩ (.slice s ns.length G) (Zz) (Zz)):=(af.block _ (by omega)).trans ay;obtain⟨c,ah⟩:=Ze (ab.setCell ⟨w.heap.size+2,3,none⟩ (.slice J es.length c3):Zw)
 have bH:c.heap.size=ab.heap.size:=by rw[ah];simp
 have aU:c.heap[w.heap.size+2]?=some (ownO K ⟨S.toArray⟩ (.slice s ns.length G) (.slice J es.length c3) (Zz)):=by rw[ah,zhk aM];rfl
 have aA:∀j,j≠w.heap.size+2->c.heap[j]?=ab.heap[j]?:=fun j M=>by rw[ah];exact Ja M
 have bh:ZB w c:=by rw[ah];exact(Zn aL af).setCell (p:=⟨w.heap.size+2,3,none⟩) (by show w.heap.size<=w.heap.size+2;omega) _
 have t5:c.heap[w.heap.size]?=some Z:=by rw[aA _ (by omega),af.block _ (by omega),az _ (by omega),ae.block _ (by omega),t3]
 have z5:c.heap[w.heap.size+1]?=some zO:=by rw[aA _ (by omega),af.block _ (by omega),az _ (by omega),ae.block _ (by omega),z3]
 have bI:ZH (∀W':Zw,(∀j,w.heap.size+3<=j->j<c.heap.size->W'.heap[j]?=c.heap[j]?)->SRow W' (.slice s ns.length G) ns):=fun W' h=>be W' fun j aN ai=>by
  rw[h j (by omega) (by omega),aA _ (by omega),af.block _ (by omega),az _ (by omega)]
 have bJ:ZH (∀W':Zw,(∀j,w.heap.size+3<=j->j<c.heap.size->W'.heap[j]?=c.heap[j]?)->BRow W' (.slice J es.length c3) es):=fun W' h=>bg W' fun j aN ai=>by
  rw[h j (by omega) (by omega),aA _ (by omega)]
 have aV:w.heap.size+3<=c.heap.size:=by omega
 -- the cells that the walk reads and writes
 have bK:V.cell? ⟨w.heap.size+1+1,2,none⟩=some (Zz):=by rw[Y0 (by rw[aK,aw])];rfl
 have f2:V.frozen? ⟨w.heap.size+1+1,2,none⟩=false:=YH (by rw[aK,aw]) 2;have m3:(V.setCell ⟨w.heap.size+1+1,2,none⟩ (.slice s ns.length G)).cell? ⟨w.heap.size+1+1,3,none⟩=some (Zz):=by rw[<-aa,Y0 ay];rfl
 have m4:(V.setCell ⟨w.heap.size+1+1,2,none⟩ (.slice s ns.length G)).cell? ⟨w.heap.size,3,none⟩=some (.slice pe es.length ce):=by rw[<-aa,Y0 (show I.heap[w.heap.size]?=_ by rw[az _ (by omega),ae.block _ (by omega),t3,aH])];rfl
 have aO:ab.cell? ⟨w.heap.size+1+1,3,none⟩=some (Zz):=by rw[Y0 aM];rfl
 have f3:ab.frozen? ⟨w.heap.size+1+1,3,none⟩=false:=YH aM 3;have bi:(Builtin.append_ #[27,27] 27 #[Zz,.slice pn ns.length cn]).run Tryz.prog (((w.alloc (ownO K ⟨S.toArray⟩ (.slice pn ns.length cn) (.slice pe es.length ce) (.slice pp r.length cp))).alloc (ownO 0 ⟨#[]⟩ (Zz) (Zz) (Zz))).alloc (ownO K ⟨S.toArray⟩ (Zz) (Zz) (Zz)))=.ok (.slice s ns.length G) V:=by
  rw[<-bc,ad,aH,aS,aw]
 have bj:(Builtin.append_ #[28,28] 28 #[Zz,.slice pe es.length ce]).run Tryz.prog (V.setCell ⟨w.heap.size+1+1,2,none⟩ (.slice s ns.length G))=.ok (.slice J es.length c3) ab:=by rw[<-bf,aa]
 have bk:=J3 bi;have bl:=J3 bj;have aj:=J3 (show c.heap[w.heap.size]?=some Z/\c.heap[w.heap.size+1]?=some zO/\c.heap[w.heap.size+2]?=some (ownO K ⟨S.toArray⟩ (.slice s ns.length G) (.slice J es.length c3) (Zz))/\ZB w c/\w.heap.size+3<=c.heap.size/\c=ab.setCell ⟨w.heap.size+1+1,3,none⟩ (.slice J es.length c3)from⟨t5,z5,aU,bh,aV,ah⟩);have aW:ZH (∀k (ak:k<r.length),∃u,zi3 w pp k u/\∀W,ZB w W->Zg 56 #[u] W fun e w'=>(∃u:V5,e=.returned (val5 u)/\(∀x∈zch u,x.oneCell'=true)/\∀W':Zw,(∀j,W.heap.size<=j->j<w'.heap.size->W'.heap[j]?=w'.heap[j]?)->TyValD W' d (val5 u) r[k])/\ZB W w'):=fun k ak=>by
  obtain⟨u,hu,aQ⟩:=bb.at k ak;have b4:=zdk (Ys ak);exact⟨u,hu,fun W bL=>a9 _ u W (TyValD.below bL aQ) (by omega)⟩
 have bM:=J3 aH;have bN:=J3 aS;clear a9 a' ba bb bc bf bi bj be bg az aA aJ aL bh t3 z3 aT t5 z5 aU ay aK aM ae af ad aa ah bF bH bE bG bD aV aH aS aw hz;go_enter Tryz.func56,Tryz.ntmps56;go_wp2_with (first
  | (at_builtin;refine J4 rfl (.tmp 11) (.tmp 13) 27 rfl rfl rfl bk ?_;clear bk)
  | (at_builtin;refine J4 rfl (.tmp 17) (.tmp 19) 28 rfl rfl rfl bl ?_;clear bl))
 have bm:=J0 aj;rw[<-bm.2.2.2.2.2];clear bm m3 m4 bK f2 aO f3
 go_loopw [4] (fun i wr=>∃(k:Nat) (vp:Value),i=Zi k/\k<=r.length/\ZH (OTys c.heap.size wr vp d (r.take k))/\ZH (wr.heap[w.heap.size+2]?=some (ownO K ⟨S.toArray⟩ (.slice s ns.length G) (.slice J es.length c3) vp))/\ZH (ZB w wr)/\ZH (c.heap.size<=wr.heap.size/\∀j,j<c.heap.size->j≠w.heap.size+2->wr.heap[j]?=c.heap[j]?)) (fun i _=>r.length-(intOf i).toNat)
 case atStart=>exact⟨0,Zz,rfl,by omega,OTys.nil _ _ _,aj.2.2.1,aj.2.2.2.1,⟨Y5 _,fun _ _ _=>rfl⟩⟩
 case round=>
  obtain⟨k,vp,rfl,ak,aB,ag,aX,aC⟩:=hrel;have aV:=aj.2.2.2.2.1;obtain⟨q,cq,rfl⟩:∃q cq,vp=.slice q k cq:=by
   obtain⟨bO,_,aY,_⟩:=J0 aB;obtain⟨q,cq,e,_⟩:=Jh aY;exact⟨q,cq,by rw[e,YE,Xz ak]⟩
  have aP:wr.heap[w.heap.size]?=some Z:=(aC.2 _ (by omega) (by omega)).trans aj.1;rw[J0 bM]at aP;have c4:wr.cell? ⟨w.heap.size,4,none⟩=some (.slice pp r.length cp):=by rw[Y0 aP];rfl
  have ay:wr.cell? ⟨w.heap.size+1+1,4,none⟩=some (.slice q k cq):=by rw[Y0 (J0 ag)];rfl
  have aZ:=J3 aP;clear aP;by_cases aR:k<r.length
  ·obtain⟨u,⟨g,o,bn,S',bo,bp,aO,nn,d1,ne,d2,bq,d3,rfl,rfl,a0,a1,a2,a3,a4⟩,br⟩:=aW k aR;have ac:=J0 aX;have b0:=(ac.cell (p:=⟨g,_,none⟩) (J2 a0)).trans a0;have b5:=(ac.cell (p:=⟨g,_,none⟩) (J2 a1)).trans a1;have b6:=(ac.cell (p:=⟨g,_,none⟩) (J2 a2)).trans a2;have aJ:=(ac.cell (p:=⟨g,_,none⟩) (J2 a3)).trans a3;have aL:=(ac.cell (p:=⟨g,_,none⟩) (J2 a4)).trans a4;have b7:(k:Int)<(r.length:Int):=by omega
   have bP:ZH (Zg 56 #[.agg #[Zi bn,.string S',.slice bo nn d1,.slice bp ne d2,.slice aO bq d3]] wr.drew fun e w1=>∃(al:Int) (am:Zy) (an ao ap:Zo) (m1 aq m2 ar m3 au:Nat),e=.returned (.agg #[Zi al,.string am,.slice an m1 aq,.slice ao m2 ar,.slice ap m3 au]) /\
     w1.cell? ⟨w.heap.size+1+1,4,none⟩=some (.slice q k cq)/\w1.cell? ⟨w.heap.size,4,none⟩=some (.slice (Zs g o) r.length cp)/\(w1.alloc (ownO al am (.slice an m1 aq) (.slice ao m2 ar) (.slice ap m3 au))).cell? ⟨w.heap.size+1+1,4,none⟩=some (.slice q k cq) /\
     ∃(U cap:Nat) (I:Zw),(Builtin.append_ #[29,29] 29 #[.slice q k cq,.slice (Zs w1.heap.size 0) 1 1]).run Tryz.prog (w1.alloc (ownO al am (.slice an m1 aq) (.slice ao m2 ar) (.slice ap m3 au)))=.ok (.slice (Zs U 0) (k+1) cap) I /\
      I.cell? ⟨w.heap.size+1+1,4,none⟩=some (.slice q k cq)/\I.frozen? ⟨w.heap.size+1+1,4,none⟩=false /\
      OTys c.heap.size (I.setCell ⟨w.heap.size+1+1,4,none⟩ (.slice (Zs U 0) (k+1) cap)) (.slice (Zs U 0) (k+1) cap) d (r.take (k+1))/\(I.setCell ⟨w.heap.size+1+1,4,none⟩ (.slice (Zs U 0) (k+1) cap)).heap[w.heap.size+2]?=some (ownO K ⟨S.toArray⟩ (.slice s ns.length G) (.slice J es.length c3) (.slice (Zs U 0) (k+1) cap)) /\
      ZB w (I.setCell ⟨w.heap.size+1+1,4,none⟩ (.slice (Zs U 0) (k+1) cap))/\c.heap.size<=(I.setCell ⟨w.heap.size+1+1,4,none⟩ (.slice (Zs U 0) (k+1) cap)).heap.size/\∀j,j<c.heap.size->j≠w.heap.size+2->(I.setCell ⟨w.heap.size+1+1,4,none⟩ (.slice (Zs U 0) (k+1) cap)).heap[j]?=c.heap[j]?):=by
    refine(br wr.drew (Jb ac)).mono ?_;rintro e w1 ⟨⟨u,rfl,bQ,bt⟩,bR⟩;have aD:ZB wr w1:=JO bR;have av:=J0 aC;have b8:=aD.size;obtain⟨al,am,an,ao,ap,m1,aq,m2,ar,m3,au,rfl⟩:=zmh (bt w1 fun _ _ _=>rfl);have a5:w1.heap[w.heap.size+2]?=some (ownO K ⟨S.toArray⟩ (.slice s ns.length G) (.slice J es.length c3) (.slice q k cq)):=(aD.block _ (by omega)).trans ag;have bS:w1.heap[w.heap.size]?=some (ownO K ⟨S.toArray⟩ (.slice pn ns.length cn) (.slice pe es.length ce) (.slice (Zs g o) r.length cp)):=(aD.block _ (by omega)).trans aZ;obtain⟨U,cap,I,E,bu,b9,bv,bT⟩:=zjk aB av.1 aD bt bQ (by rw[YE];omega);rw[YE,Xz ak]at E bu;have bw:∀j,(Value.slice q k cq).ownBlock=some j->c.heap.size<=j:=fun j aE=>by
     obtain⟨bO,_,aY,_⟩:=J0 aB;exact(aY.lt j aE).1
    have a6:I.heap[w.heap.size+2]?=some (ownO K ⟨S.toArray⟩ (.slice s ns.length G) (.slice J es.length c3) (.slice q k cq)):=(bv _ (by omega) (fun aE=>by have:=bw _ aE.symm;omega)).trans a5;refine⟨al,am,an,ao,ap,m1,aq,m2,ar,m3,au,rfl,by rw[Y0 a5];rfl,by rw[Y0 bS];rfl,?_,U,cap,I,E,by rw[Y0 a6];rfl,YH a6 4,?_,?_,?_,?_,?_⟩
    ·rw[Y0 ((zc2 w1 _ _ (by omega)).trans a5)];rfl
    ·rw[zbb aR];refine bu.move (by simp) fun j M=>Ja (by omega)
    ·rw[zhk a6];rfl
    ·exact(ac.trans (bT.mono (by omega))).setCell (p:=⟨w.heap.size+1+1,4,none⟩) (by show w.heap.size<=w.heap.size+1+1;omega) _
    ·simp;omega
    ·intro j M bz;rw[Ja bz,bv j (by omega) (fun aE=>by have:=bw _ aE.symm;omega),aD.block j (by omega),av.2 j M bz]
   clear br a0 a1 a2 a3 a4 ac aB ag aX aC aW aZ;go_wp2_with fail
   go_region_law (first
    | (refine zbd (u:=.agg #[Zi bn,.string S',.slice bo nn d1,.slice bp ne d2,.slice aO bq d3]) rfl 56 (.tmp 35) 31 rfl (by simp[Act.eval]) zev ?_;refine bP.mono ?_;rintro e w1 ⟨al,am,an,ao,ap,m1,aq,m2,ar,m3,au,rfl,b',ca,cb,U,cap,I,E,cc,cd,bU,bV,bW,bX,bY⟩;refine⟨_,rfl,?_⟩)
    | refine zac rfl (.tmp 30) (.tmp 37) 29 rfl (by simp[Act.eval]) (by simp[Act.eval]) E ?_)
   all_goals
    go_wp2_with fail;go_roundw
    case rel=>exact⟨k+1,_,by go_num,by omega,bU,bV,bW,⟨bX,bY⟩⟩
    case measure=>simp[intOf];omega
  ·obtain rfl:k=r.length:=by omega
   have av:=J0 aC;have L:wr.heap[w.heap.size+1]?=some zO:=(av.2 _ (by omega) (by omega)).trans aj.2.1;rw[J0 bN]at L;obtain⟨cf,cg,ch,aT,aU⟩:wr.cell? ⟨w.heap.size+1+1,0,none⟩=some (Zi K)/\wr.cell? ⟨w.heap.size+1+1,1,none⟩=some (.string ⟨S.toArray⟩)/\wr.cell? ⟨w.heap.size+1+1,2,none⟩=some (.slice s ns.length G)/\wr.cell? ⟨w.heap.size+1+1,3,none⟩=some (.slice J es.length c3)/\wr.cell? ⟨w.heap.size+1+1,4,none⟩=some (.slice q r.length cq):=
    ⟨by rw[Y0 (J0 ag)];rfl,by rw[Y0 (J0 ag)];rfl,by rw[Y0 (J0 ag)];rfl,by rw[Y0 (J0 ag)];rfl,ay⟩
   obtain⟨ci,cj,ck,cl,cm⟩:wr.cell? ⟨w.heap.size+1,0,none⟩=some (Zi 0)/\wr.cell? ⟨w.heap.size+1,1,none⟩=some (.string ⟨#[]⟩)/\wr.cell? ⟨w.heap.size+1,2,none⟩=some (Zz)/\wr.cell? ⟨w.heap.size+1,3,none⟩=some (Zz)/\wr.cell? ⟨w.heap.size+1,4,none⟩=some (Zz):=
    ⟨by rw[Y0 L];rfl,by rw[Y0 L];rfl,by rw[Y0 L];rfl,by rw[Y0 L];rfl,by rw[Y0 L];rfl⟩
   have co:=YH L 0;have cr:=YH L 1;have cs:=YH L 2;have cu:=YH L 3;have cv:=YH L 4;have bZ:=J3 L;have b1:=J3 av;clear L av aW aC aZ;go_wp2_with fail;obtain⟨Y,aF⟩:=Ze (((((wr.setCell ⟨w.heap.size+1,0,none⟩ (Zi K)).setCell ⟨w.heap.size+1,1,none⟩ (.string ⟨S.toArray⟩)).setCell ⟨w.heap.size+1,2,none⟩ (.slice s ns.length G)).setCell ⟨w.heap.size+1,3,none⟩ (.slice J es.length c3)).setCell ⟨w.heap.size+1,4,none⟩ (.slice q r.length cq):Zw)
   rw[<-aF];have aG:Y.heap[w.heap.size+1]?=some (ownO K ⟨S.toArray⟩ (.slice s ns.length G) (.slice J es.length c3) (.slice q r.length cq)):=by
    rw[aF];exact zhk (i:=4) (zhk (i:=3) (zhk (i:=2) (zhk (i:=1) (zhk (i:=0) bZ (Zi K)) (.string ⟨S.toArray⟩)) (.slice s ns.length G)) (.slice J es.length c3)) (.slice q r.length cq)
   have a7:∀j,j≠w.heap.size+1->Y.heap[j]?=wr.heap[j]?:=fun j M=>by rw[aF,Ja M,Ja M,Ja M,Ja M,Ja M]
   have cw:Y.heap.size=wr.heap.size:=by rw[aF];simp
   have b2:ZB w Y:=by
    rw[aF];have hle:w.heap.size<=w.heap.size+1:=by omega
    exact((((aX.setCell (p:=⟨w.heap.size+1,0,none⟩) hle _).setCell (p:=⟨w.heap.size+1,1,none⟩) hle _).setCell (p:=⟨w.heap.size+1,2,none⟩) hle _).setCell (p:=⟨w.heap.size+1,3,none⟩) hle _).setCell (p:=⟨w.heap.size+1,4,none⟩) hle _
   have f0:Y.cell? ⟨w.heap.size+1,0,none⟩=some (Zi K):=by rw[Y0 aG];rfl
   have f1:Y.cell? ⟨w.heap.size+1,1,none⟩=some (.string ⟨S.toArray⟩):=by rw[Y0 aG];rfl
   have f2:Y.cell? ⟨w.heap.size+1,2,none⟩=some (.slice s ns.length G):=by rw[Y0 aG];rfl
   have f3:Y.cell? ⟨w.heap.size+1,3,none⟩=some (.slice J es.length c3):=by rw[Y0 aG];rfl
   have f4:Y.cell? ⟨w.heap.size+1,4,none⟩=some (.slice q r.length cq):=by rw[Y0 aG];rfl
   have bA:=J0 aB;rw[Yr]at bA;have bB:=J0 b1;refine Yi (v:=.agg #[Zi K,.string ⟨S.toArray⟩,.slice s ns.length G,.slice J es.length c3,.slice q r.length cq]) (by simp[results,Tryz.results56,go_sem,f0,f1,f2,f3,f4]) rfl ⟨⟨(Zi K,.string ⟨S.toArray⟩,.slice s ns.length G,.slice J es.length c3,.slice q r.length cq),rfl,?_,fun W' a8=>⟨s,J,q,G,c3,cq,rfl,bI W' fun j aN ai=>?_,bJ W' fun j aN ai=>?_,bA.rows W' fun j aN ai=>?_⟩⟩,b2⟩
   ·intro x bC;simp[zch]at bC;rcases bC with rfl|rfl|rfl|rfl|rfl <;> rfl
   ·rw[a8 j (by omega) (by omega),a7 j (by omega),bB.2 j ai (by omega)]
   ·rw[a8 j (by omega) (by omega),a7 j (by omega),bB.2 j ai (by omega)]
   ·rw[a8 j (by omega) (by omega),a7 j (by omega)]
theorem own_any:∀d,OwnAt d
 | 0=>fun t=>nomatch t
 | d+1=>own_step d (own_any d)
def Left (base:Nat) (v:Value) (w:Zw) (u:Value) (ns:List Bs) (w':Zw):Prop:=
 w'.ownsRow base 9 1 u ns.length (za8 ns)/\Below base w w'/\(∀j,j<w.heap.size->some j≠v.ownBlock->w'.heap[j]?=w.heap[j]?)/\(u.ownBlock=v.ownBlock∨∀g,u.ownBlock=some g->w.heap.size<=g)
theorem Left.append {base:Nat} {v:Value} {ns:List Bs} {s:Bs} {w:Zw} (h:w.ownsRow base 9 1 v ns.length (za8 ns)) (G:base<=w.heap.size) (hn:ns.length<1000000) :
  ∃(g cap:Nat) (r:Zw),(Builtin.append_ #[27,27] 27 #[v,.slice (Zs w.heap.size 0) 1 1]).run Tryz.prog (w.alloc (.cells #[.string ⟨s.toArray⟩] 9))=.ok (.slice (Zs g 0) (ns.length+1) cap) r/\Left base v w (.slice (Zs g 0) (ns.length+1) cap) (ns++[s]) r:=by
 obtain⟨i0,I,J,L,M⟩:=Xx zi0;obtain⟨g,cap,r,U,V,t,Y,_⟩:=run_append_lies (P:=Tryz.prog) (w.alloc (.cells #[.string ⟨s.toArray⟩] 9)) 27 27 base 9 i0 (.string ⟨#[]⟩) 1 16 Tryz.underlying27 I J L M rfl (by decide) v ns.length _
  (h.alloc _) ⟨w.heap.size,0,none⟩ 1 1 [.string ⟨s.toArray⟩] rfl
  (fun j x c=>by
   match j,c with
   | 0,c=>rw[addr_add,Ya _ _ _ _ rfl,<-c];rfl
   | j+1,c=>simp at c)
  (by intro u hu;simp at hu;subst hu;rfl) (by omega) (by unfold maxLen;omega) (by omega) (by simp;omega) (w.heap.size+1) (by simp)
 refine⟨g,cap,r,U,by simpa[za8]using V,((Yu _ _).alloc G _).grown t (by simp;omega) (fun k Z=>(h.lt k Z).1),fun j hj aa=>(t.block j (by simp;omega) aa).trans (((Yu w.heap.size w).alloc (Y5 _) _).block j hj),?_⟩;rcases Y with e|e
 ·exact .inl e.symm
 ·refine .inr fun g2 e2=>?_
  have:g=g2:=by simpa[Value.ownBlock]using e2
  omega
theorem zl1 {d:Nat} (c:List (Ty d)) (k:Nat):szL d (c.take k)<=szL d c:=by
 have:szL d c=szL d (c.take k)+szL d (c.drop k):=by unfold szL;rw[<-Yx,<-Yj,Xl]
 omega
end Go.Proofs.YtdcbglnhhbmpgaaGreatDoor
