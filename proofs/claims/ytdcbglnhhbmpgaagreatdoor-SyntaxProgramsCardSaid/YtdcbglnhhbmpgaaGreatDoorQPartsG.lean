import Derived.Deep.Slices
import Derived.Handed
import Derived.OpenShut
import Derived.Test.YtdcbglnhhbmpgaaGreatDoorQSynE
import Derived.Test.YtdcbglnhhbmpgaaGreatDoorQLaws9
set_option maxHeartbeats 4000000
set_option maxRecDepth 100000
namespace Go.Proofs.YtdcbglnhhbmpgaaGreatDoor
open Go Go.ChangeShapes Go.WideShapes Go.ChangeAt Go.RowKit Go.Deep Lx
def TyWf:(d:Nat)->List (Ty d)->Prop
 | 0,_=>True
 | d+1,c=>c.length<=140737488351232/\∀t∈c,t.2.1.length<=140737488351232/\t.2.2.1.length<=140737488351232/\(∀s∈t.2.2.1,s.length<=140737488351232)/\t.2.2.2.1.length<=140737488351232/\TyWf d t.2.2.2.2
abbrev Reached {H:Type} (t:TypeId) (D:DataW H):Prop:=∀n∈D.weights Tryz.prog t,n<=reachBytes
theorem bytes_str:Tryz.prog.bytesOf 9=16:=by kernel_rfl
theorem bytes_bool:Tryz.prog.bytesOf 4=1:=by kernel_rfl
theorem bytes_ty:Tryz.prog.bytesOf 31=96:=by kernel_rfl
theorem cells_str:Tryz.prog.cellsOf 9=1:=by kernel_rfl
theorem cells_bool:Tryz.prog.cellsOf 4=1:=by kernel_rfl
theorem cells_ty:Tryz.prog.cellsOf 31=5:=by kernel_rfl
theorem zlw {H:Type} {e:TypeId}:∀{l:List (DataW H)} {n:Nat} {d:DataW H},d∈l->n∈d.weights Tryz.prog e->n∈DataW.weightsAll Tryz.prog e l
 | x::r,n,d,hd,c=>by
  rw[DataW.weightsAll,YZ];rcases Xj.1 hd with rfl|hd
  ·exact Or.inl c
  ·exact Or.inr (zlw hd c)
theorem reach_slice {H:Type} {t e:TypeId} {a b:List (DataW H)} (j:Tryz.prog.underlying t=some (.slice e)) (h:Reached t (DataW.slice a b)):(a.length+b.length)*Tryz.prog.bytesOf e<=reachBytes/\∀d∈a,Reached e d:=by
 have g:∀n∈(a.length+b.length)*Tryz.prog.bytesOf e::(DataW.weightsAll Tryz.prog e a++DataW.weightsAll Tryz.prog e b),n<=reachBytes:=by
  intro n c;refine h n ?_;rw[DataW.weights,j];exact c
 exact⟨g _ (by simp),fun d hd n c=>g n (by simp[zlw hd c])⟩
section
variable {H:Type} {enc:TypeId×Value->H} {W:Zw}
theorem zco {t e:TypeId} {n c:Nat} {v:Value} {x:DataW H×List MemPlace} (r:Tryz.prog.underlying t=some (.slice e)) (J:Tryz.prog.cellsOf e=c) (h:DataW.trod enc Tryz.prog W 0 (fun _=>true) true n t [v]=some x) (L:Reached t x.1) :
  (v=Zz)∨∃(a:Addr) (len cap m:Nat),n=m+1/\v=.slice (some a) len cap/\len<=cap/\cap*Tryz.prog.bytesOf e<=reachBytes /\
   ∀i,i<len->∃(cs:List Value) (y:DataW H×List MemPlace),cs.length=c/\(∀j,j<c->W.cell? (a.add (i*c+j))=cs[j]?)/\DataW.trod enc Tryz.prog W 0 (fun _=>true) true m e cs=some y/\Reached e y.1:=by
 rcases DataW.trod_slice r h with⟨g,_⟩|⟨a,len,cap,elems,rest,m,rfl,g,rfl,_,M,hm,hlen,U,V,_⟩
 ·left;simpa using g
 ·right
  obtain rfl:v=.slice (some a) len cap:=by simpa using g
  obtain⟨s,Y⟩:=reach_slice r L;obtain⟨ad,_⟩:=V rfl;have Z:elems.length+rest.length=cap:=by omega
  rw[Xy,Xy,Z]at s;refine⟨a,len,cap,m,rfl,rfl,M,s,fun i hi=>?_⟩;have u:=U i hi;have G:i<elems.length:=by omega
  rw[Y6 G]at u;obtain⟨cs,I,aa⟩:=X0.1 u;rw[J]at I;obtain⟨_,ab,ac⟩:=World.cells?_some I;refine⟨cs,elems[i],ab,fun j hj=>?_,aa,Y _ (YF.2 ⟨_,Ys G,rfl⟩)⟩;have:=ac j hj;rw[add_add]at this;exact this
theorem open_strs {n:Nat} {v:Value} {x:DataW H×List MemPlace} (h:DataW.trod enc Tryz.prog W 0 (fun _=>true) true n 27 [v]=some x) (M:Reached 27 x.1) :
  ∃u:List Bs,SRow W v u/\u.length<=140737488351232/\∀s∈u,s.length<=140737488351232:=by
 rcases zco Tryz.underlying27 cells_str h M with rfl|⟨a,len,cap,m,rfl,rfl,hl,J,U⟩
 ·exact⟨[],⟨none,0,rfl,fun j t c=>by simp at c⟩,by simp,by simp⟩
 ·rw[bytes_str]at J;unfold reachBytes at J;have each:∀i,i<len->∃s:Bs,W.cell? (a.add i)=some (.string ⟨s.toArray⟩)/\s.length<=140737488351232:=by
   intro i G;obtain⟨cs,y,hlen,V,c,Y⟩:=U i G;obtain⟨s,rfl,rfl,_⟩:=XF Tryz.underlying9 c;have g:=V 0 (by omega);have r:=Y s.data.toList.length (by rw[DataW.weights];simp);unfold reachBytes at r;exact⟨s.data.toList,by simpa using g,r⟩
  obtain⟨q,I⟩:=choose_lt each;refine⟨(List.range len).map q,⟨some a,cap,by simp,fun j t c=>?_⟩,by simp;omega,fun s r=>?_⟩
  ·rw[Xd]at c;have L:j<len:=by
    rcases YW j len with h|h
    ·exact h
    ·rw[X9 (by simpa using h)]at c;cases c
   rw[XH L]at c;obtain rfl:q j=t:=by simpa using c
   obtain⟨g,_⟩:=I j L;obtain⟨Z,_⟩:=I 0 (by omega);obtain⟨b,o,sp⟩:=a;obtain rfl:sp=none:=by simpa[Addr.add]using World.cell?_spot Z
   rw[YT]at g;exact⟨b,o,rfl,g⟩
  ·obtain⟨i,G,rfl⟩:=YF.1 r;exact(I i (Yy.1 G)).2
theorem open_bools {n:Nat} {v:Value} {x:DataW H×List MemPlace} (h:DataW.trod enc Tryz.prog W 0 (fun _=>true) true n 28 [v]=some x) (J:Reached 28 x.1) :
  ∃r:List Bool,BRow W v r/\r.length<=140737488351232:=by
 rcases zco Tryz.underlying28 cells_bool h J with rfl|⟨a,len,cap,m,rfl,rfl,Y,u,L⟩
 ·exact⟨[],⟨none,0,rfl,fun j t c=>by simp at c⟩,by simp⟩
 ·rw[bytes_bool]at u;unfold reachBytes at u;have each:∀i,i<len->∃s:Bool,W.cell? (a.add i)=some (.bool s):=by
   intro i M;obtain⟨cs,y,hlen,U,c,Z⟩:=L i M;obtain⟨s,rfl,rfl⟩:=DataW.trod_bool Tryz.underlying4 c;have g:=U 0 (by omega);exact⟨s,by simpa using g⟩
  obtain⟨q,G⟩:=choose_lt each;refine⟨(List.range len).map q,⟨some a,cap,by simp,fun j t c=>?_⟩,by simp;omega⟩;rw[Xd]at c;have I:j<len:=by
   rcases YW j len with h|h
   ·exact h
   ·rw[X9 (by simpa using h)]at c;cases c
  rw[XH I]at c;obtain rfl:q j=t:=by simpa using c
  have g:=G j I;have V:=G 0 (by omega);obtain⟨b,o,sp⟩:=a;obtain rfl:sp=none:=by simpa[Addr.add]using World.cell?_spot V
  rw[YT]at g;exact⟨b,o,rfl,g⟩
def zik (enc:TypeId×Value->H) (W:Zw) (k:Nat):Prop:=∀(v:Value) (x:DataW H×List MemPlace),DataW.trod enc Tryz.prog W 0 (fun _=>true) true (2*k+2) 29 [v]=some x->Reached 29 x.1->∃c:List (Ty k),TyRow W k v c/\TyWf k c
theorem weights_five {t0 t1 t2 t3 t4:TypeId} {c g j r s:DataW H} {n:Nat}:n∈c.weights Tryz.prog t0∨n∈g.weights Tryz.prog t1∨n∈j.weights Tryz.prog t2∨n∈r.weights Tryz.prog t3∨n∈s.weights Tryz.prog t4->n∈DataW.weightsEach Tryz.prog [t0,t1,t2,t3,t4] [c,g,j,r,s]:=by
 intro h;simp only[DataW.weightsEach,YZ];rcases h with h|h|h|h|h
 ·exact Or.inl h
 ·exact Or.inr (Or.inl h)
 ·exact Or.inr (Or.inr (Or.inl h))
 ·exact Or.inr (Or.inr (Or.inr (Or.inl h)))
 ·exact Or.inr (Or.inr (Or.inr (Or.inr (Or.inl h))))
theorem zio {k:Nat} (V:zik enc W k) {cs:List Value} {x:DataW H×List MemPlace} (h:DataW.trod enc Tryz.prog W 0 (fun _=>true) true (2*k+3) 31 cs=some x) (Y:Reached 31 x.1) :
  ∃(t:Ty (k+1)) (vn ve vp:Value),cs=[Zi t.1,.string ⟨t.2.1.toArray⟩,vn,ve,vp]/\SRow W vn t.2.2.1/\BRow W ve t.2.2.2.1/\TyRow W k vp t.2.2.2.2 /\
   t.2.1.length<=140737488351232/\t.2.2.1.length<=140737488351232/\(∀s∈t.2.2.1,s.length<=140737488351232)/\t.2.2.2.1.length<=140737488351232/\TyWf k t.2.2.2.2:=by
 obtain⟨xs,m,hm,rfl,j,Z,g⟩:=Xm Tryz.underlying31 h;obtain rfl:m=2*k+2:=by omega
 rw[cells_ty]at j
 match cs,j with
 | [r,u,G,c3,c4],_=>
  have hx:xs.length=5:=Z
  match xs,hx with
  | [y0,I,J,L,M],_=>
   have g0:=g 0 _ rfl;have g1:=g 1 _ rfl;have g2:=g 2 _ rfl;have g3:=g 3 _ rfl;have g4:=g 4 _ rfl;simp only[Xa,YN]at g0 g1 g2 g3 g4;have hw:∀n,(n∈I.1.weights Tryz.prog 9∨n∈J.1.weights Tryz.prog 27∨n∈L.1.weights Tryz.prog 28∨n∈M.1.weights Tryz.prog 29)->n<=reachBytes:=fun n c=>Y n (by
    show n∈DataW.weights Tryz.prog 31 (.agg [y0.1,I.1,J.1,L.1,M.1]);rw[DataW.weights,Tryz.underlying31];exact weights_five (t0:=3) (Or.inr c))
   obtain⟨z,e0,_,_⟩:=DataW.trod_int Tryz.underlying3 g0;obtain⟨s,e1,aa,_⟩:=XF Tryz.underlying9 g1;obtain⟨ns,r1,r2,r3⟩:=open_strs (v:=G) g2 (fun n c=>hw n (Or.inr (Or.inl c)));obtain⟨es,r4,r5⟩:=open_bools (v:=c3) g3 (fun n c=>hw n (Or.inr (Or.inr (Or.inl c))));obtain⟨ts,r6,r7⟩:=V c4 _ g4 (fun n c=>hw n (Or.inr (Or.inr (Or.inr c))));have U:=hw s.data.toList.length (Or.inl (by rw[aa,DataW.weights];simp));unfold reachBytes at U;obtain rfl:r=Zi z:=(Xk (show[r]=[Zi z]from e0)).1;obtain rfl:u=.string s:=(Xk (show[u]=[Value.string s]from e1)).1;exact⟨(z,s.data.toList,ns,es,ts),G,c3,c4,rfl,r1,r4,r6,U,r2,r3,r5,r7⟩
theorem opens_succ {k:Nat} (Z:zik enc W k):zik enc W (k+1):=fun v x h hr=>by
 rcases zco Tryz.underlying29 cells_ty h hr with rfl|⟨a,len,cap,m,hm,rfl,hl,L,hx⟩
 ·exact⟨[],⟨none,0,rfl,fun j t c=>by simp at c⟩,by simp,by simp⟩
 ·obtain rfl:m=2*k+3:=by omega
  rw[bytes_ty]at L;unfold reachBytes at L;have each:∀i,i<len->∃q:Ty (k+1)×Value×Value×Value,(W.cell? (a.add (i*5))=some (Zi q.1.1)/\W.cell? (a.add (i*5+1))=some (.string ⟨q.1.2.1.toArray⟩)/\W.cell? (a.add (i*5+2))=some q.2.1/\W.cell? (a.add (i*5+3))=some q.2.2.1/\W.cell? (a.add (i*5+4))=some q.2.2.2) /\
    (SRow W q.2.1 q.1.2.2.1/\BRow W q.2.2.1 q.1.2.2.2.1/\TyRow W k q.2.2.2 q.1.2.2.2.2)/\q.1.2.1.length<=140737488351232/\q.1.2.2.1.length<=140737488351232/\(∀s∈q.1.2.2.1,s.length<=140737488351232)/\q.1.2.2.2.1.length<=140737488351232/\TyWf k q.1.2.2.2.2:=by
   intro i r;obtain⟨cs,y,hlen,g,c,aa⟩:=hx i r;obtain⟨t,vn,ve,vp,rfl,u,G,I,r4⟩:=zio Z c aa;exact⟨(t,vn,ve,vp),⟨by simpa using g 0 (by omega),by simpa using g 1 (by omega),by simpa using g 2 (by omega),by simpa using g 3 (by omega),by simpa using g 4 (by omega)⟩,⟨u,G,I⟩,r4⟩
  have ac:Inhabited (Ty (k+1)×Value×Value×Value):=⟨((0,[],[],[],[]),.bool true,.bool true,.bool true)⟩
  obtain⟨q,J⟩:=choose_lt each;refine⟨(List.range len).map fun i=>(q i).1,⟨some a,cap,by simp,fun j t c=>?_⟩,by simp;omega,fun s hs=>?_⟩
  ·rw[Xd]at c;have M:j<len:=by
    rcases YW j len with h|h
    ·exact h
    ·rw[X9 (by simpa using h)]at c;cases c
   rw[XH M]at c;obtain rfl:(q j).1=t:=by simpa using c
   obtain⟨⟨U,V,Y,c3,c4⟩,⟨u,G,I⟩,_⟩:=J j M;obtain⟨⟨ab,_⟩,_⟩:=J 0 (by omega);obtain⟨b,o,sp⟩:=a;obtain rfl:sp=none:=by simpa[Addr.add]using World.cell?_spot ab
   rw[YT]at U V Y c3 c4;exact⟨b,o,_,_,_,rfl,U,by simpa[YR]using V,by simpa[YR]using Y,by simpa[YR]using c3,by simpa[YR]using c4,u,G,I⟩
  ·obtain⟨i,r,rfl⟩:=YF.1 hs;exact(J i (Yy.1 r)).2.2
theorem opens_zero:zik enc W 0:=fun v x h c=>by
 rcases zco Tryz.underlying29 cells_ty h c with rfl|⟨a,len,cap,m,hm,rfl,u,G,g⟩
 ·exact⟨[],⟨none,0,rfl⟩,trivial⟩
 ·obtain rfl:m=1:=by omega
  rcases X1 len with rfl|j
  ·exact⟨[],⟨some a,cap,rfl⟩,trivial⟩
  ·obtain⟨cs,y,hlen,I,r,J⟩:=g 0 j;obtain⟨xs,n,L,rfl,M,s,t⟩:=Xm Tryz.underlying31 r;obtain rfl:n=0:=by omega
   have g0:=t 0 _ rfl;have U:xs.length=5:=s;rw[Y6 (by omega)]at g0;simp[DataW.trod]at g0
theorem zj1:∀k,zik enc W k
 | 0=>opens_zero
 | k+1=>opens_succ (zj1 k)
end
open Go Go.RowKit Lx
def TyValD (W:Zw):(d:Nat)->Value->Ty d->Prop
 | 0,_,_=>False
 | d+1,v,t=>TyVal W d v t
theorem TyValD.below {w w':Zw} (c:ZB w w'):∀{d:Nat} {v:Value} {t:Ty d},TyValD w d v t->TyValD w' d v t
 | 0,_,_,h=>h
 | _+1,_,_,h=>TyVal.below h c
def zi3 (W:Zw) (pp:Zo) (k:Nat) (v:Value):Prop:=
 ∃(g o:Nat) (K:Int) (S:Zy) (pn pe c:Zo) (nn cn ne ce h c3:Nat),pp=some ⟨g,o,none⟩/\v=.agg #[Zi K,.string S,.slice pn nn cn,.slice pe ne ce,.slice c h c3] /\
  ZK5 W g (o+k*5) (Zi K) (.string S) (.slice pn nn cn) (.slice pe ne ce) (.slice c h c3)
theorem TyRow.at {w:Zw}:∀{d:Nat} {pp:Zo} {cp:Nat} {j:List (Ty d)},TyRow w d (.slice pp j.length cp) j->∀(k:Nat) (r:k<j.length),∃v,zi3 w pp k v/\TyValD w d v j[k]
 | 0,_,_,j,_,k,r=>by
  match j,r with
  | t::_,_=>exact nomatch t
 | d+1,pp,cp,j,h,k,r=>by
  obtain⟨p,c,e,hp⟩:=h;injection e with x U V
  subst x;obtain⟨g,o,vn,ve,vp,rfl,a0,G,a2,a3,a4,I,J,s⟩:=hp k j[k] (by simp);obtain⟨pn,cn,rfl,L⟩:=I;obtain⟨pe,ce,rfl,M⟩:=J;obtain⟨u,c3,rfl⟩:=s.slice;exact⟨_,⟨g,o,_,_,pn,pe,u,_,cn,_,ce,_,c3,rfl,rfl,a0,G,a2,a3,a4⟩,pn,pe,u,cn,ce,c3,rfl,⟨pn,cn,rfl,L⟩,⟨pe,ce,rfl,M⟩,s⟩
def WfD:(d:Nat)->Ty d->Prop
 | 0,_=>False
 | d+1,t=>t.2.1.length<=140737488351232/\t.2.2.1.length<=140737488351232/\(∀s∈t.2.2.1,s.length<=140737488351232)/\t.2.2.2.1.length<=140737488351232/\t.2.2.2.2.length<=140737488351232/\∀u∈t.2.2.2.2,WfD d u
theorem TyWf.each:∀{d:Nat} {c:List (Ty d)},TyWf d c->c.length<=140737488351232/\∀u∈c,WfD d u
 | 0,[],_=>⟨by simp,by simp⟩
 | 0,t::_,_=>nomatch t
 | d+1,c,h=>⟨h.1,fun u hu=>by
  obtain⟨g,j,r,s,x⟩:=h.2 u hu;obtain⟨G,I⟩:=TyWf.each x;exact⟨g,j,r,s,G,I⟩⟩
theorem zbu:∀{l:List Nat} {n:Nat},n∈l->n<=l.sum
 | x::r,n,h=>by
  rw[YM];rcases Xj.1 h with rfl|h
  ·omega
  ·have:=zbu h;omega
def zgm (ns:List Bs):Nat:=(ns.map List.length).sum
theorem sumL_take {ns:List Bs} {k:Nat} (h:k<ns.length):zgm (ns.take (k+1))=zgm (ns.take k)+ns[k].length:=by
 rw[Yq h];unfold zgm;rw[Yj,Yx];simp
def szD:(d:Nat)->Ty d->Nat
 | 0,_=>0
 | d+1,t=>1+t.2.1.length+t.2.2.1.length+t.2.2.2.1.length+zgm t.2.2.1+(t.2.2.2.2.map (szD d)).sum
def szL (d:Nat) (c:List (Ty d)):Nat:=(c.map (szD d)).sum
theorem zgn {d:Nat} {c:List (Ty d)} {k:Nat} (h:k<c.length):szL d (c.take (k+1))=szL d (c.take k)+szD d c[k]:=by
 rw[Yq h];unfold szL;rw[Yj,Yx];simp
theorem zc3:∀(d:Nat) (c:List (Ty d)),many d c<=szL d c
 | 0,_=>by simp[many]
 | _+1,[]=>by simp[many]
 | d+1,t::r=>by
  have g:=zc3 d t.2.2.2.2;have h:=zc3 (d+1) r;have e:szL (d+1) (t::r)=szD (d+1) t+szL (d+1) r:=by simp[szL]
  rw[many,e,szD];unfold szL at g;omega
theorem sumL_mem {ns:List Bs} {s:Bs} (h:s∈ns):s.length<=zgm ns:=zbu (YF.2 ⟨s,h,rfl⟩)
theorem zdk {d:Nat} {c:List (Ty d)} {t:Ty d} (h:t∈c):szD d t<=szL d c:=zbu (YF.2 ⟨t,h,rfl⟩)
theorem zgo:∀{d:Nat} {c:List (Ty d)},szL d c<=1000000->za5 d c
 | 0,_,_=>trivial
 | d+1,c,h=>by
  refine⟨Yh (zbh _ c) (Yh (zc3 _ c) h),fun t g=>?_⟩;have j:=zdk g;rw[szD]at j;have r:szL d t.2.2.2.2<=1000000:=by unfold szL;omega
  have x:=Yh (zbh _ t.2.2.2.2) (zc3 _ t.2.2.2.2);refine⟨⟨by omega,by omega,fun s u=>?_,by omega,by omega⟩,zgo r⟩;have:=sumL_mem u;omega
def SizeAt (d:Nat):Prop:=∀(t:Ty d) (v:Value) (q:Int) (c:Nat) (w:Zw),q=c->TyValD w d v t->WfD d t->1<=c->c<=100000 ->
 Zg 16 #[v,Zi q] w fun e w'=>(∃n:Nat,e=.returned (Zi (n:Nat))/\n<=c+422212465053696/\(n<c->n=szD d t))/\ZB w w'
abbrev zdj (K:Int) (S:Zy) (pn pe pp:Zo) (nn ne np cn ce cp:Nat):Obj:=.cells #[Zi K,.string S,.slice pn nn cn,.slice pe ne ce,.slice pp np cp] 31
theorem ze4 {K:Int} {S:Zy} {pn pe pp:Zo} {nn ne np cn ce cp:Nat} {w wr:Zw} (c:Below (w.alloc (zdj K S pn pe pp nn ne np cn ce cp)).heap.size (w.alloc (zdj K S pn pe pp nn ne np cn ce cp)) wr) :
  ZL5 wr w.heap.size (Zi K) (.string S) (.slice pn nn cn) (.slice pe ne ce) (.slice pp np cp):=by
 have h:∀j,wr.cell? ⟨w.heap.size,j,none⟩=(#[Zi K,.string S,.slice pn nn cn,.slice pe ne ce,.slice pp np cp])[j]?:=fun j=>by
  rw[c.cell (p:=⟨w.heap.size,j,none⟩) (by simp),Ya _ _ _ _ rfl]
 exact⟨h 0,h 1,h 2,h 3,h 4⟩
theorem size_step (d:Nat) (IH:SizeAt d):SizeAt (d+1):=fun t v q r w U V hw h1 aj=>by
 subst U;obtain⟨pn,pe,pp,cn,ce,cp,rfl,r1,r2,r3⟩:=V;obtain⟨w1,w2,w3,w4,w5,w6⟩:=hw;obtain⟨K,S,ns,es,s⟩:=t;dsimp only at *;have aa:ZB w (w.alloc (zdj K ⟨S.toArray⟩ pn pe pp ns.length es.length s.length cn ce cp)):=Za _ _;obtain⟨p,c,e,hp⟩:=r1;injection e with e1 e2 e3
 subst e1 e3;have I:ZH (∀k (J:k<ns.length),∃g o,pn=some ⟨g,o,none⟩/\w.cell? ⟨g,o+k,none⟩=some (.string ⟨ns[k].toArray⟩)/\ns[k].length<=140737488351232):=fun k J=>by
  obtain⟨g,o,e,a⟩:=hp k ns[k] (by simp);exact⟨g,o,e,a,w3 _ (by simp)⟩
 have HP:ZH (∀k (J:k<s.length),∃u,zi3 w pp k u/\∀(q:Int) (r:Nat) W,q=r->ZB w W->1<=r->r<=100000->Zg 16 #[u,Zi q] W fun e w'=>(∃n:Nat,e=.returned (Zi (n:Nat))/\n<=r+422212465053696/\(n<r->n=szD d s[k]))/\ZB W w'):=fun k J=>by
  obtain⟨u,hu,V⟩:=r3.at k J;exact⟨u,hu,fun q r W U hW h1 h2=>IH _ u q r W U (TyValD.below hW V) (w6 _ (by simp)) h1 h2⟩
 have ac:ZH (szD (d+1) (K,S,ns,es,s)=1+S.length+ns.length+es.length+zgm ns+szL d s):=rfl;have HA:=J3 aa;have hS:S.toArray.size=S.length:=by simp
 have ak:ByteArray.size ⟨S.toArray⟩=S.length:=hS;clear hp r2 r3 IH aa w3 w6;go_enter Tryz.func16,Tryz.ntmps16;go_wp2
 go_loop [5,6] (fun n i=>∃k m:Nat,i=Zi k/\n=Zi m/\k<=ns.length/\m<=r+422212465053696/\ZH (m<r->m=1+S.length+ns.length+es.length+zgm (ns.take k))) (fun _ i=>ns.length-(intOf i).toNat)
 case atStart=>exact⟨0,1+S.length+ns.length+es.length,rfl,by go_num,by omega,by omega,(by show _->_;intro _;simp[zgm])⟩
 case round=>
  obtain⟨k,m,rfl,rfl,J,hm,Y⟩:=hrel;by_cases L:k<ns.length/\m<r
  ·obtain⟨x,Z⟩:=L;obtain⟨g,o,rfl,a0,hl⟩:=I k x;have ad:(k:Int)<(ns.length:Int):=by omega
   have al:(m:Int)<(r:Int):=by omega
   have hz:ByteArray.size ⟨ns[k].toArray⟩=ns[k].length:=by show ns[k].toArray.size=_;simp
   have hg:=J2 a0;go_wp2
   go_round
   case rel=>exact⟨k+1,m+ns[k].length,by go_num,by go_num,by omega,by omega,(by have:=Y Z;show _->_;intro _;rw[sumL_take x];omega)⟩
   case measure=>simp[intOf];omega
  ·have ab:ZH (m<r->m=1+S.length+ns.length+es.length+zgm ns):=fun h=>by
    have ae:k=ns.length:=by omega
    have:=Y h;rw[ae,Yr]at this;exact this
   have hx:((k:Int)<(ns.length:Int)/\(r:Int)<=(m:Int))∨¬(k:Int)<(ns.length:Int):=by omega
   clear L Y I;rcases hx with⟨x,Z⟩|x
   all_goals
    go_wp2
    go_loopw [5,7] (fun n i wr=>∃k m:Nat,i=Zi k/\n=Zi m/\k<=s.length/\m<=r+422212465053696/\ZH (m<r->m=1+S.length+ns.length+es.length+zgm ns+szL d (s.take k))/\ZH (Below (w.alloc (zdj K ⟨S.toArray⟩ pn pe pp ns.length es.length s.length cn ce cp)).heap.size (w.alloc (zdj K ⟨S.toArray⟩ pn pe pp ns.length es.length s.length cn ce cp)) wr)) (fun _ i _=>s.length-(intOf i).toNat)
    case atStart=>exact⟨0,m,rfl,rfl,by omega,hm,(by show _->_;intro h;have:=ab h;simp[szL];omega),Zr⟩
    case round=>
     clear hm x ab J;obtain⟨j,n,rfl,rfl,hj,hn,I,M⟩:=hrel;obtain⟨d0,d1,d2,d3,d4⟩:=ze4 M;by_cases L:j<s.length/\n<r
     ·obtain⟨x,af⟩:=L;obtain⟨u,⟨g,o,K',S',qn,qe,q3,nn,c1,ne,c2,n3,c3,rfl,rfl,a0,a1,a2,a3,a4⟩,HI⟩:=HP j x;have G:=HA.trans (M.mono (by simp));have b0:=(G.cell (p:=⟨g,_,none⟩) (J2 a0)).trans a0;have b1:=(G.cell (p:=⟨g,_,none⟩) (J2 a1)).trans a1;have b2:=(G.cell (p:=⟨g,_,none⟩) (J2 a2)).trans a2;have b3:=(G.cell (p:=⟨g,_,none⟩) (J2 a3)).trans a3;have b4:=(G.cell (p:=⟨g,_,none⟩) (J2 a4)).trans a4;have ad:(j:Int)<(s.length:Int):=by omega
      have am:(n:Int)<(r:Int):=by omega
      have CL:=J3 (HI ((r:Int)-n) (r-n) wr (by omega) G (by omega) (by omega));clear HI a0 a1 a2 a3 a4 G;go_wp2_with (go_at_call 16;refine CL.mono ?_;clear CL;rintro e w1 ⟨⟨z,rfl,an,ag⟩,ah⟩);go_roundw
      case rel=>exact⟨j+1,n+z,by go_num,by go_num,by omega,by omega,(by have:=I af;show _->_;intro h;have:=ag (by omega);rw[zgn x];omega),(Zn M ah)⟩
      case measure=>simp[intOf];omega
     ·have HE:ZH (n<r->n=szD (d+1) (K,S,ns,es,s)):=fun h=>by
       have ai:j=s.length:=by omega
       have:=I h;rw[ai,Yr]at this;rw[J0 ac];exact this
      have hx:((j:Int)<(s.length:Int)/\(r:Int)<=(n:Int))∨¬(j:Int)<(s.length:Int):=by omega
      clear L I HP;rcases hx with⟨x,Z⟩|x
      all_goals
       go_wp2;go_ret;exact⟨⟨n,rfl,hn,HE⟩,HA.trans (M.mono (by simp))⟩
theorem zgi:∀d,SizeAt d
 | 0=>fun t=>nomatch t
 | d+1=>size_step d (zgi d)
end Go.Proofs.YtdcbglnhhbmpgaaGreatDoor
namespace Go.Proofs.YtdcbglnhhbmpgaaGreatDoor
open Go Go.RowKit Lx
theorem zfh (t:Tok) (r:List Tok):zf4 (t::r)=32::(J5 t++zf4 r):=by simp[zf4]
theorem spaced_append (a b:List Tok):zf4 (a++b)=zf4 a++zf4 b:=by simp[zf4]
def fl (l:List Tok):Nat:=(zf4 l).length
theorem zde (a b:List Tok):fl (a++b)=fl a+fl b:=by rw[fl,spaced_append,Y9];rfl
theorem zbi (t:Tok) (r:List Tok):fl (t::r)=1+(J5 t).length+fl r:=by rw[fl,zfh];simp[fl];omega
theorem zed:fl []=0:=rfl
theorem fl_flat (g:Nat->List Tok):∀n,fl ((List.range n).flatMap g)=((List.range n).map fun i=>fl (g i)).sum
 | 0=>rfl
 | n+1=>by
  have c:=fl_flat g n;rw[YA,YO,zde,c,Yj,Yx];simp
theorem zj8 {α:Type} (c:List α) (g:α->Nat):∀n,((List.range n).map fun i=>(c[i]?.map g).getD 0).sum=((c.take n).map g).sum
 | 0=>by simp
 | n+1=>by
  rw[YA,Yj,Yx,zj8 c g n,List.take_add_one,Yj,Yx];rcases h:c[n]? with _|x <;> simp[h]
theorem take_sum (l:List Nat) (n:Nat):(l.take n).sum<=l.sum:=by
 have:l.sum=(l.take n).sum+(l.drop n).sum:=by rw[<-Yx,Xl]
 omega
theorem zfb {α:Type} (c:List α) (g:α->Nat) (n:Nat):((List.range n).map fun i=>(c[i]?.map g).getD 0).sum<=(c.map g).sum:=by
 rw[zj8,List.map_take];exact take_sum _ _
theorem zew {n:Nat} {f g:Nat->Nat} (h:∀i,i<n->f i<=g i):((List.range n).map f).sum<=((List.range n).map g).sum:=by
 induction n with
 | zero=>simp
 | succ n c=>
  have j:=c (fun i r=>h i (by omega));have s:=h n (by omega);rw[YA,Yj,Yx,Yj,Yx];simp only[Yf,YG,YM,List.sum_nil];omega
theorem sum_add (n:Nat) (f g:Nat->Nat):((List.range n).map fun i=>f i+g i).sum=((List.range n).map f).sum+((List.range n).map g).sum:=by
 induction n with
 | zero=>simp
 | succ n c=>
  rw[YA,Yj,Yx,Yj,Yx,Yj,Yx,c];simp only[Yf,YG,YM,List.sum_nil];omega
theorem zia (n c:Nat):((List.range n).map fun _=>c).sum=n*c:=by
 induction n with
 | zero=>simp
 | succ n g=>
  rw[YA,Yj,Yx,g,Nat.succ_mul];simp
theorem zk3 (ns:List Bs) (n:Nat):((List.range n).map fun i=>(ns.getD i []).length).sum<=zgm ns:=by
 have:=zfb ns List.length n;refine Yh (zew fun i _=>?_) this;rw[Yo];rcases ns[i]? with _|x <;> simp
theorem txt_s (s:Bs):(J5 (tS s)).length=s.length:=by rw[JB (show(6:Int)≠4 by decide) (show(6:Int)≠5 by decide)];rfl
theorem txt_w (s:Bs):(J5 (tW s)).length=s.length:=by rw[JB (show(3:Int)≠4 by decide) (show(3:Int)≠5 by decide)];rfl
theorem txt_n (s:Bs):(J5 (tN s)).length=s.length:=by rw[JB (show(1:Int)≠4 by decide) (show(1:Int)≠5 by decide)];rfl
theorem txt_t (s:Bs):(J5 (tT s)).length=s.length:=by rw[JB (show(2:Int)≠4 by decide) (show(2:Int)≠5 by decide)];rfl
theorem zkk:∀(d:Nat) (I:Bool) (t:Ty d),fl (Jf d I t)+2<=20*szD d t
 | 0,_,t=>nomatch t
 | d+1,I,t=>by
  obtain⟨K,S,ns,es,c⟩:=t;have M:szD (d+1) (K,S,ns,es,c)=1+S.length+ns.length+es.length+zgm ns+(c.map (szD d)).sum:=rfl;rw[M];have g:∀(i:Nat) (s:Bool),fl ((c[i]?.map (Jf d s)).getD [])+(c[i]?.map fun _=>2).getD 0<=(c[i]?.map fun u=>20*szD d u).getD 0:=fun i s=>by
   rcases h:c[i]? with _|u
   ·simp[zed]
   ·simpa using zkk d s u
  have J:∀n,((List.range n).map fun i=>(c[i]?.map fun u=>20*szD d u).getD 0).sum<=20*(c.map (szD d)).sum:=fun n=>by
   refine Yh (zfb c (fun u=>20*szD d u) n) ?_;clear M g
   induction c with
   | nil=>simp
   | cons x r ih=>simp only[Yf,YM];omega
  have U:fl (tS [40]::((List.range (c.length-1)).flatMap fun i=>(if 0<i then[tS [44]]else[])++(c[i]?.map (Jf d false)).getD [])++tS [41]::(c[c.length-1]?.map (Jf d false)).getD [])<=4+20*(c.map (szD d)).sum:=by
   rw[YD,zbi,zde,zbi,fl_flat,txt_s,txt_s];rcases X1 c.length with V|V
   ·have:c=[]:=YB V;subst this;simp[zed]
   ·have G:((List.range (c.length-1)).map fun i=>fl ((if 0<i then[tS [44]]else[])++(c[i]?.map (Jf d false)).getD [])).sum<=((List.range (c.length-1)).map fun i=>(c[i]?.map fun u=>20*szD d u).getD 0).sum:=zew fun i Y=>by
     have j:=g i false;have L:c[i]?=some c[i]:=by simp
     rw[L]at j ⊢;simp only[X5,YY]at j ⊢;rw[zde]
     split
     ·rw[zbi,zed,txt_s];simp;omega
     ·rw[zed];omega
    have Z:=g (c.length-1) false;have h5:=J (c.length-1+1);rw[YA,Yj,Yx]at h5;simp only[Yf,YG,YM,List.sum_nil]at h5;simp only[Yk,X8];omega
  show fl (if I=true then _ else if K=1 then _ else if K=2 then _ else if K=3 then _ else if K=4 then _ else if K=5 then _ else if K=6 then _ else if K=7 then _ else if K=8 then _ else[])+2<=_;by_cases aa:I=true
  ·rw[Ye aa];have:=U;dsimp only at this ⊢;omega
  rw[Y7 aa];by_cases ab:K=1
  ·rw[Ye ab];rw[zbi,zed,txt_w];simp only[Yk,X8];omega
  rw[Y7 ab];by_cases ac:K=2
  ·rw[Ye ac];rw[zbi,zed,txt_w];simp only[Yk,X8];omega
  rw[Y7 ac];by_cases ad:K=3
  ·rw[Ye ad];rw[zbi,zed,txt_w];simp only[Yk,X8];omega
  rw[Y7 ad];by_cases ae:K=4
  ·rw[Ye ae];rw[zbi,zed,txt_t];dsimp only;omega
  rw[Y7 ae];by_cases af:K=5
  ·rw[Ye af];have G:=g 0 false;have j:=J 1;simp only[List.range_one,Yf,YG,YM,List.sum_nil]at j;rw[zbi,txt_s];simp only[Yk,X8];omega
  rw[Y7 af];by_cases ag:K=6
  ·rw[Ye ag];rw[YD,zbi,zde,fl_flat,zbi,zed,txt_s,txt_s];have G:((List.range ns.length).map fun i=>fl ((if es.getD i false=true then[tW [101,109,98,101,100]]else[])++tN (ns.getD i [])::(c[i]?.map (Jf d false)).getD []++[tS [59]])).sum<=((List.range ns.length).map fun i=>9+((ns.getD i []).length+(c[i]?.map fun u=>20*szD d u).getD 0)).sum:=zew fun i Y=>by
    have j:=g i false;rw[zde,zde,zbi,zbi,zed,txt_n,txt_s]
    split
    ·rw[zbi,zed,txt_w];simp only[Yk,X8];omega
    ·rw[zed];simp only[Yk,X8];omega
   rw[sum_add,sum_add,zia]at G;have L:=zk3 ns ns.length;have Z:=J ns.length;simp only[Yk,X8];omega
  rw[Y7 ag];by_cases ah:K=7
  ·rw[Ye ah];rw[zbi,txt_w];have:=U;simp only[Yk,X8];omega
  rw[Y7 ah];by_cases ai:K=8
  ·rw[Ye ai];rw[YD,YD,zbi,zbi,zde,fl_flat,zbi,zed,txt_s,txt_s,txt_w];have G:((List.range ns.length).map fun i=>fl (tN (ns.getD i [])::(c[i]?.map (Jf d true)).getD []++[tS [59]])).sum<=((List.range ns.length).map fun i=>9+((ns.getD i []).length+(c[i]?.map fun u=>20*szD d u).getD 0)).sum:=zew fun i Y=>by
    have j:=g i true;rw[zde,zbi,zbi,zed,txt_n,txt_s];simp only[Yk,X8];omega
   rw[sum_add,sum_add,zia]at G;have L:=zk3 ns ns.length;have Z:=J ns.length;simp only[Yk,X8];omega
  rw[Y7 ai];rw[zed];omega
def cn (l:List Tok):Nat:=l.length
theorem Jo (a b:List Tok):cn (a++b)=cn a+cn b:=Y9
theorem Jj (t:Tok) (r:List Tok):cn (t::r)=1+cn r:=by rw[cn,Yk,cn];omega
theorem JJ:cn []=0:=rfl
theorem zhj (g:Nat->List Tok):∀n,cn ((List.range n).flatMap g)=((List.range n).map fun i=>cn (g i)).sum
 | 0=>rfl
 | n+1=>by
  have c:=zhj g n;rw[YA,YO,Jo,c,Yj,Yx];simp
theorem zdu:∀(d:Nat) (I:Bool) (t:Ty d),cn (Jf d I t)+1<=4*szD d t
 | 0,_,t=>nomatch t
 | d+1,I,t=>by
  obtain⟨K,S,ns,es,c⟩:=t;have M:szD (d+1) (K,S,ns,es,c)=1+S.length+ns.length+es.length+zgm ns+(c.map (szD d)).sum:=rfl;rw[M];have g:∀(i:Nat) (s:Bool),cn ((c[i]?.map (Jf d s)).getD [])+(c[i]?.map fun _=>1).getD 0<=(c[i]?.map fun u=>4*szD d u).getD 0:=fun i s=>by
   rcases h:c[i]? with _|u
   ·simp[JJ]
   ·simpa using zdu d s u
  have J:∀n,((List.range n).map fun i=>(c[i]?.map fun u=>4*szD d u).getD 0).sum<=4*(c.map (szD d)).sum:=fun n=>by
   refine Yh (zfb c (fun u=>4*szD d u) n) ?_;clear M g
   induction c with
   | nil=>simp
   | cons x r ih=>simp only[Yf,YM];omega
  have U:cn (tS [40]::((List.range (c.length-1)).flatMap fun i=>(if 0<i then[tS [44]]else[])++(c[i]?.map (Jf d false)).getD [])++tS [41]::(c[c.length-1]?.map (Jf d false)).getD [])<=2+4*(c.map (szD d)).sum:=by
   rw[YD,Jj,Jo,Jj,zhj];rcases X1 c.length with V|V
   ·have:c=[]:=YB V;subst this;simp[JJ]
   ·have G:((List.range (c.length-1)).map fun i=>cn ((if 0<i then[tS [44]]else[])++(c[i]?.map (Jf d false)).getD [])).sum<=((List.range (c.length-1)).map fun i=>(c[i]?.map fun u=>4*szD d u).getD 0).sum:=zew fun i Y=>by
     have j:=g i false;have L:c[i]?=some c[i]:=by simp
     rw[L]at j ⊢;simp only[X5,YY]at j ⊢;rw[Jo]
     split
     ·rw[Jj,JJ];omega
     ·rw[JJ];omega
    have Z:=g (c.length-1) false;have h5:=J (c.length-1+1);rw[YA,Yj,Yx]at h5;simp only[Yf,YG,YM,List.sum_nil]at h5;omega
  show cn (if I=true then _ else if K=1 then _ else if K=2 then _ else if K=3 then _ else if K=4 then _ else if K=5 then _ else if K=6 then _ else if K=7 then _ else if K=8 then _ else[])+1<=_;by_cases aa:I=true
  ·rw[Ye aa];have:=U;dsimp only at this ⊢;omega
  rw[Y7 aa];by_cases ab:K=1
  ·rw[Ye ab];rw[Jj,JJ];omega
  rw[Y7 ab];by_cases ac:K=2
  ·rw[Ye ac];rw[Jj,JJ];omega
  rw[Y7 ac];by_cases ad:K=3
  ·rw[Ye ad];rw[Jj,JJ];omega
  rw[Y7 ad];by_cases ae:K=4
  ·rw[Ye ae];rw[Jj,JJ];omega
  rw[Y7 ae];by_cases af:K=5
  ·rw[Ye af];have G:=g 0 false;have j:=J 1;simp only[List.range_one,Yf,YG,YM,List.sum_nil]at j;rw[Jj];dsimp only;omega
  rw[Y7 af];by_cases ag:K=6
  ·rw[Ye ag];rw[YD,Jj,Jo,zhj,Jj,JJ];have G:((List.range ns.length).map fun i=>cn ((if es.getD i false=true then[tW [101,109,98,101,100]]else[])++tN (ns.getD i [])::(c[i]?.map (Jf d false)).getD []++[tS [59]])).sum<=((List.range ns.length).map fun i=>3+((ns.getD i []).length+(c[i]?.map fun u=>4*szD d u).getD 0)).sum:=zew fun i Y=>by
    have j:=g i false;rw[Jo,Jo,Jj,Jj,JJ]
    split
    ·rw[Jj,JJ];omega
    ·rw[JJ];omega
   rw[sum_add,sum_add,zia]at G;have L:=zk3 ns ns.length;have Z:=J ns.length;dsimp only;omega
  rw[Y7 ag];by_cases ah:K=7
  ·rw[Ye ah];rw[Jj];have:=U;dsimp only;omega
  rw[Y7 ah];by_cases ai:K=8
  ·rw[Ye ai];rw[YD,YD,Jj,Jj,Jo,zhj,Jj,JJ];have G:((List.range ns.length).map fun i=>cn (tN (ns.getD i [])::(c[i]?.map (Jf d true)).getD []++[tS [59]])).sum<=((List.range ns.length).map fun i=>3+((ns.getD i []).length+(c[i]?.map fun u=>4*szD d u).getD 0)).sum:=zew fun i Y=>by
    have j:=g i true;rw[Jo,Jj,Jj,JJ];omega
   rw[sum_add,sum_add,zia]at G;have L:=zk3 ns ns.length;have Z:=J ns.length;dsimp only;omega
  rw[Y7 ai];rw[JJ];omega
theorem zlb {d:Nat} {t:Ty (d+1)} (h:zb6 d t=true):t.1=1∨t.1=2∨t.1=3∨t.1=4∨t.1=5∨t.1=6∨t.1=7∨t.1=8:=by
 apply Decidable.byContradiction;intro g;rw[zb6,JF]at h;by_cases c:t.1≠4/\t.2.1.isEmpty=false
 ·rw[Ye c]at h;cases h
 ·rw[Y7 c,Y7 (by omega),Y7 (by omega),Y7 (by omega),Y7 (by omega),Y7 (by omega),Y7 (by omega)]at h
  cases h
theorem toks_ne' {d:Nat} {t:Ty (d+1)} (h:zb6 d t=true) (c:Bool) (I:c=false):Jf (d+1) c t≠[]:=by
 have J:=zlb h;obtain⟨K,S,ns,es,L⟩:=t;show(if c=true then _ else if K=1 then _ else if K=2 then _ else if K=3 then _ else if K=4 then _ else if K=5 then _ else if K=6 then _ else if K=7 then _ else if K=8 then _ else[])≠[];dsimp only at J;rw[Y7 (by rw[I];simp)];by_cases g:K=1
 ·rw[Ye g];simp
 rw[Y7 g];by_cases j:K=2
 ·rw[Ye j];simp
 rw[Y7 j];by_cases r:K=3
 ·rw[Ye r];simp
 rw[Y7 r];by_cases s:K=4
 ·rw[Ye s];simp
 rw[Y7 s];by_cases u:K=5
 ·rw[Ye u];simp
 rw[Y7 u];by_cases x:K=6
 ·rw[Ye x];simp
 rw[Y7 x];by_cases G:K=7
 ·rw[Ye G];simp
 rw[Y7 G,Ye (by omega)];simp
theorem toks_ne {d:Nat} {t:Ty (d+1)} (h:zb6 d t=true):Jf (d+1) false t≠[]:=toks_ne' h false rfl
theorem JC (s:Bs):J5 (tS s)=s:=by rw[JB (show(6:Int)≠4 by decide) (show(6:Int)≠5 by decide)];rfl
theorem zap (s:Bs):J5 (tW s)=s:=by rw[JB (show(3:Int)≠4 by decide) (show(3:Int)≠5 by decide)];rfl
theorem zdl (s:Bs):J5 (tN s)=s:=by rw[JB (show(1:Int)≠4 by decide) (show(1:Int)≠5 by decide)];rfl
end Go.Proofs.YtdcbglnhhbmpgaaGreatDoor
