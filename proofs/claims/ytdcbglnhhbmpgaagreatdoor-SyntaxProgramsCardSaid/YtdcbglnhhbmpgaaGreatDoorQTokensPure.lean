import Derived.Test.YtdcbglnhhbmpgaaGreatDoorQPartsG
import Derived.Test.YtdcbglnhhbmpgaaGreatDoorQStG
import Derived.Deep.DeepCutAuto
import Derived.Deep.CutBlock
import Derived.Deep.LoopGhost
set_option maxHeartbeats 8000000
set_option maxRecDepth 100000
namespace Go.Proofs.YtdcbglnhhbmpgaaGreatDoor
open Go Go.ChangeShapes Go.WideShapes Go.ChangeAt Go.RowKit Go.Deep Lx
theorem bytes_ex:Tryz.prog.bytesOf 62=112:=by kernel_rfl
theorem cells_ex:Tryz.prog.cellsOf 62=7:=by kernel_rfl
theorem bytes_st:Tryz.prog.bytesOf 124=128:=by kernel_rfl
theorem cells_st:Tryz.prog.cellsOf 124=7:=by kernel_rfl
def ExWf (D:Nat):(d:Nat)->List (Ex D d)->Prop
 | 0,_=>True
 | d+1,xs=>xs.length<=140737488351232/\∀x∈xs,((xS x).length<=140737488351232/\-9223372036854775808<=xN x/\xN x<=9223372036854775807)/\(xNs x).length<=140737488351232/\(∀s∈xNs x,s.length<=140737488351232)/\TyWf D (xT x)/\ExWf D d (xPs x)
def StWf (D d:Nat):(m:Nat)->List (St D d m)->Prop
 | 0,_=>True
 | m+1,c=>c.length<=140737488351232/\∀s∈c,(zb4 s).length<=140737488351232/\TyWf D (sT s)/\ExWf D d (sX s)/\StWf D d m (sB s)/\StWf D d m (sE s)
section
variable {H:Type} {enc:TypeId×Value->H} {W:Zw}
def zlx (enc:TypeId×Value->H) (W:Zw) (D k:Nat):Prop:=∀(v:Value) (x:DataW H×List MemPlace),DataW.trod enc Tryz.prog W 0 (fun _=>true) true (2*k+2) 60 [v]=some x->Reached 60 x.1->∃xs:List (Ex D k),ExRow W D k v xs/\ExCap W D k v xs/\ExWf D k xs
def zm2 (enc:TypeId×Value->H) (W:Zw) (D d k:Nat):Prop:=∀(v:Value) (x:DataW H×List MemPlace),DataW.trod enc Tryz.prog W 0 (fun _=>true) true (2*k+2) 32 [v]=some x->Reached 32 x.1->∃c:List (St D d k),StRow W D d k v c/\StWf D d k c
theorem int_wf {z:Int} (h:(Lit.int .i64 z).wf=true):-9223372036854775808<=z/\z<=9223372036854775807:=by
 simp[Lit.wf,show IntKind.i64.min = -9223372036854775808 by decide,show IntKind.i64.max=9223372036854775807 by decide]at h;omega
theorem zgf {n:Nat} {cs:List Value} {y:DataW H×List MemPlace} (h:DataW.trod enc Tryz.prog W 0 (fun _=>true) true n 25 cs=some y):∃z,cs=[Zi z]:=by
 obtain⟨xs,m,_,rfl,g,j,r⟩:=Xm Tryz.underlying25 h;have g0:=r 0 _ rfl;have s:Tryz.prog.cellsOf 25=1:=by kernel_rfl
 rw[s]at g;have t:xs.length=1:=j;rw[Y6 (by omega)]at g0;obtain⟨z,e,_,_⟩:=DataW.trod_int Tryz.underlying3 g0
 match cs,g with
 | [c],_=>exact⟨z,e⟩
theorem open_ex_cells {D k:Nat} (hk:k<=D) (IH:zlx enc W D k) {cs:List Value} {x:DataW H×List MemPlace} (h:DataW.trod enc Tryz.prog W 0 (fun _=>true) true (2*k+3) 62 cs=some x) (hr:Reached 62 x.1) :
  ∃(t:Ex D (k+1)) (vt vn vp:Value),cs=[Zi (xAt t),Zi (zfi t),Zi (xN t),.string ⟨(xS t).toArray⟩,vt,vn,vp]/\TyRow W D vt (xT t)/\SRow W vn (xNs t)/\ExRow W D k vp (xPs t)/\ExCap W D k vp (xPs t) /\
   ((xS t).length<=140737488351232/\-9223372036854775808<=xN t/\xN t<=9223372036854775807)/\(xNs t).length<=140737488351232/\(∀s∈xNs t,s.length<=140737488351232)/\TyWf D (xT t)/\ExWf D k (xPs t):=by
 obtain⟨xs,m,hm,rfl,L,aa,c⟩:=Xm Tryz.underlying62 h;obtain rfl:m=2*k+2:=by omega
 rw[cells_ex]at L
 match cs,L with
 | [j,M,U,c3,c4,c5,V],_=>
  have hx:xs.length=7:=aa
  match xs,hx with
  | [Y,Z,y2,r,u,G,I],_=>
   have g0:=c 0 _ rfl;have g1:=c 1 _ rfl;have g2:=c 2 _ rfl;have g3:=c 3 _ rfl;have g4:=c 4 _ rfl;have g5:=c 5 _ rfl;have g6:=c 6 _ rfl;simp only[Xa,YN]at g0 g1 g2 g3 g4 g5 g6;have hw:∀n,(n∈r.1.weights Tryz.prog 9∨n∈u.1.weights Tryz.prog 29∨n∈G.1.weights Tryz.prog 27∨n∈I.1.weights Tryz.prog 60)->n<=reachBytes:=fun n g=>hr n (by
    show n∈DataW.weights Tryz.prog 62 (.agg [Y.1,Z.1,y2.1,r.1,u.1,G.1,I.1]);rw[DataW.weights,Tryz.underlying62];show n∈DataW.weightsEach Tryz.prog [25,3,3,9,29,27,60] [Y.1,Z.1,y2.1,r.1,u.1,G.1,I.1];simp only[DataW.weightsEach,YZ];rcases g with h|h|h|h <;> simp[h])
   obtain⟨z0,e0⟩:=zgf (cs:=[j]) g0;obtain⟨J,e1,_,_⟩:=DataW.trod_int Tryz.underlying3 g1;obtain⟨z2,e2,_,ab⟩:=DataW.trod_int Tryz.underlying3 g2;obtain⟨s,e3,ac,_⟩:=XF Tryz.underlying9 g3;obtain⟨ts,r4,ad⟩:=zj1 D c4 _ (DataW.trod_le (show 2*k+2<=2*D+2 by omega) g4) (fun n g=>hw n (Or.inr (Or.inl g)));obtain⟨ns,r5,ae,af⟩:=open_strs (v:=c5) g5 (fun n g=>hw n (Or.inr (Or.inr (Or.inl g))));obtain⟨ps,r6,ag,ah⟩:=IH V _ g6 (fun n g=>hw n (Or.inr (Or.inr (Or.inr g))));have hs:=hw s.data.toList.length (Or.inl (by rw[ac,DataW.weights];simp));unfold reachBytes at hs;obtain⟨b1,b2⟩:=int_wf ab;obtain rfl:j=Zi z0:=(Xk (show[j]=[Zi z0]from e0)).1;obtain rfl:M=Zi J:=(Xk (show[M]=[Zi J]from e1)).1;obtain rfl:U=Zi z2:=(Xk (show[U]=[Zi z2]from e2)).1;obtain rfl:c3=.string s:=(Xk (show[c3]=[Value.string s]from e3)).1;exact⟨(z0,J,z2,s.data.toList,ts,ns,ps),c4,c5,V,rfl,r4,r5,r6,ag,⟨hs,b1,b2⟩,ae,af,ad,ah⟩
theorem opens_ex_zero {D:Nat}:zlx enc W D 0:=fun v x h c=>by
 rcases zco Tryz.underlying60 cells_ex h c with rfl|⟨a,len,cap,m,hm,rfl,u,G,g⟩
 ·exact⟨[],⟨none,0,rfl⟩,trivial,trivial⟩
 ·obtain rfl:m=1:=by omega
  rcases X1 len with rfl|j
  ·exact⟨[],⟨some a,cap,rfl⟩,trivial,trivial⟩
  ·obtain⟨cs,y,hlen,I,r,J⟩:=g 0 j;obtain⟨xs,n,L,rfl,M,s,t⟩:=Xm Tryz.underlying62 r;obtain rfl:n=0:=by omega
   have g0:=t 0 _ rfl;have U:xs.length=7:=s;rw[Y6 (by omega)]at g0;simp[DataW.trod]at g0
theorem opens_ex_succ {D k:Nat} (hk:k<=D) (IH:zlx enc W D k):zlx enc W D (k+1):=fun v x h hr=>by
 rcases zco Tryz.underlying60 cells_ex h hr with rfl|⟨a,len,cap,m,hm,rfl,hl,aa,hx⟩
 ·exact⟨[],⟨none,0,rfl,fun j t c=>by simp at c⟩,⟨none,0,rfl,by simp,fun j t c=>by simp at c⟩,by simp,by simp⟩
 ·obtain rfl:m=2*k+3:=by omega
  rw[bytes_ex]at aa;unfold reachBytes at aa;have each:∀i,i<len->∃q:Ex D (k+1)×Value×Value×Value,(W.cell? (a.add (i*7))=some (Zi (xAt q.1))/\W.cell? (a.add (i*7+1))=some (Zi (zfi q.1))/\W.cell? (a.add (i*7+2))=some (Zi (xN q.1))/\W.cell? (a.add (i*7+3))=some (.string ⟨(xS q.1).toArray⟩)/\W.cell? (a.add (i*7+4))=some q.2.1/\W.cell? (a.add (i*7+5))=some q.2.2.1/\W.cell? (a.add (i*7+6))=some q.2.2.2) /\
    (TyRow W D q.2.1 (xT q.1)/\SRow W q.2.2.1 (xNs q.1)/\ExRow W D k q.2.2.2 (xPs q.1)/\ExCap W D k q.2.2.2 (xPs q.1))/\((xS q.1).length<=140737488351232/\-9223372036854775808<=xN q.1/\xN q.1<=9223372036854775807)/\(xNs q.1).length<=140737488351232/\(∀s∈xNs q.1,s.length<=140737488351232)/\TyWf D (xT q.1)/\ExWf D k (xPs q.1):=by
   intro i I;obtain⟨cs,y,hlen,g,c,ad⟩:=hx i I;obtain⟨t,vt,vn,vp,rfl,J,L,M,U,r5⟩:=open_ex_cells hk IH c ad;exact⟨(t,vt,vn,vp),⟨by simpa using g 0 (by omega),by simpa using g 1 (by omega),by simpa using g 2 (by omega),by simpa using g 3 (by omega),by simpa using g 4 (by omega),by simpa using g 5 (by omega),by simpa using g 6 (by omega)⟩,⟨J,L,M,U⟩,r5⟩
  have af:Inhabited (Ex D (k+1)×Value×Value×Value):=⟨((0,0,0,[],[],[],[]),.bool true,.bool true,.bool true)⟩
  obtain⟨q,G⟩:=choose_lt each;have ab:∀j t,((List.range len).map fun i=>(q i).1)[j]?=some t->∃r:j<len,(q j).1=t:=fun j t c=>by
   rw[Xd]at c;have r:j<len:=by
    rcases YW j len with h|h
    ·exact h
    ·rw[X9 (by simpa using h)]at c;cases c
   rw[XH r]at c;exact⟨r,by simpa using c⟩
  have ac:0<len->∃b o,a=⟨b,o,none⟩:=fun h0=>by
   obtain⟨⟨ae,_⟩,_⟩:=G 0 h0;obtain⟨b,o,sp⟩:=a;obtain rfl:sp=none:=by simpa[Addr.add]using World.cell?_spot ae
   exact⟨b,o,rfl⟩
  refine⟨(List.range len).map fun i=>(q i).1,⟨some a,cap,by simp,fun j t c=>?_⟩,⟨some a,cap,by simp,by simpa using hl,fun j t c=>?_⟩,by simp;omega,fun s hs=>?_⟩
  ·obtain⟨r,rfl⟩:=ab j t c;obtain⟨⟨V,Y,Z,c3,c4,c5,u⟩,⟨J,L,M,_⟩,_⟩:=G j r;obtain⟨b,o,rfl⟩:=ac (by omega);rw[YT]at V Y Z c3 c4 c5 u;exact⟨b,o,_,_,_,rfl,V,by simpa[YR]using Y,by simpa[YR]using Z,by simpa[YR]using c3,by simpa[YR]using c4,by simpa[YR]using c5,by simpa[YR]using u,J,L,M⟩
  ·obtain⟨r,rfl⟩:=ab j t c;obtain⟨⟨V,Y,Z,c3,c4,c5,u⟩,⟨_,_,_,U⟩,_⟩:=G j r;obtain⟨b,o,rfl⟩:=ac (by omega);rw[YT]at u;exact⟨b,o,_,rfl,by simpa[YR]using u,U⟩
  ·obtain⟨i,I,rfl⟩:=YF.1 hs;exact(G i (Yy.1 I)).2.2
theorem opens_ex {D:Nat}:∀k,k<=D->zlx enc W D k
 | 0,_=>opens_ex_zero
 | k+1,h=>opens_ex_succ (by omega) (opens_ex k (by omega))
theorem open_st_cells {D k:Nat} (hk:k<=D) (M:zm2 enc W D D k) {cs:List Value} {x:DataW H×List MemPlace} (h:DataW.trod enc Tryz.prog W 0 (fun _=>true) true (2*k+3) 124 cs=some x) (hr:Reached 124 x.1) :
  ∃(t:St D D (k+1)) (vt vx vb ve:Value),cs=[Zi (sAt t),Zi (zii t),.string ⟨(zb4 t).toArray⟩,vt,vx,vb,ve]/\TyRow W D vt (sT t)/\(ExRow W D D vx (sX t)/\ExCap W D D vx (sX t))/\StRow W D D k vb (sB t)/\StRow W D D k ve (sE t) /\
   (zb4 t).length<=140737488351232/\TyWf D (sT t)/\ExWf D D (sX t)/\StWf D D k (sB t)/\StWf D D k (sE t):=by
 obtain⟨xs,m,hm,rfl,U,aa,g⟩:=Xm Tryz.underlying124 h;obtain rfl:m=2*k+2:=by omega
 rw[cells_st]at U
 match cs,U with
 | [j,V,Y,c3,c4,c5,Z],_=>
  have hx:xs.length=7:=aa
  match xs,hx with
  | [y0,y1,r,u,G,I,J],_=>
   have g0:=g 0 _ rfl;have g1:=g 1 _ rfl;have g2:=g 2 _ rfl;have g3:=g 3 _ rfl;have g4:=g 4 _ rfl;have g5:=g 5 _ rfl;have g6:=g 6 _ rfl;simp only[Xa,YN]at g0 g1 g2 g3 g4 g5 g6;have hw:∀n,(n∈r.1.weights Tryz.prog 9∨n∈u.1.weights Tryz.prog 29∨n∈G.1.weights Tryz.prog 60∨n∈I.1.weights Tryz.prog 32∨n∈J.1.weights Tryz.prog 32)->n<=reachBytes:=fun n c=>hr n (by
    show n∈DataW.weights Tryz.prog 124 (.agg [y0.1,y1.1,r.1,u.1,G.1,I.1,J.1]);rw[DataW.weights,Tryz.underlying124];show n∈DataW.weightsEach Tryz.prog [25,3,9,29,60,32,32] [y0.1,y1.1,r.1,u.1,G.1,I.1,J.1];simp only[DataW.weightsEach,YZ];rcases c with h|h|h|h|h <;> simp[h])
   obtain⟨z0,e0⟩:=zgf (cs:=[j]) g0;obtain⟨L,e1,_,_⟩:=DataW.trod_int Tryz.underlying3 g1;obtain⟨s,e2,ab,_⟩:=XF Tryz.underlying9 g2;obtain⟨ts,r3,ac⟩:=zj1 D c3 _ (DataW.trod_le (show 2*k+2<=2*D+2 by omega) g3) (fun n c=>hw n (Or.inr (Or.inl c)));obtain⟨es,r4,ad,ae⟩:=opens_ex D (Y5 _) c4 _ (DataW.trod_le (show 2*k+2<=2*D+2 by omega) g4) (fun n c=>hw n (Or.inr (Or.inr (Or.inl c))));obtain⟨bs,r5,af⟩:=M c5 _ g5 (fun n c=>hw n (Or.inr (Or.inr (Or.inr (Or.inl c)))));obtain⟨os,r6,ag⟩:=M Z _ g6 (fun n c=>hw n (Or.inr (Or.inr (Or.inr (Or.inr c)))));have hs:=hw s.data.toList.length (Or.inl (by rw[ab,DataW.weights];simp));unfold reachBytes at hs;obtain rfl:j=Zi z0:=(Xk (show[j]=[Zi z0]from e0)).1;obtain rfl:V=Zi L:=(Xk (show[V]=[Zi L]from e1)).1;obtain rfl:Y=.string s:=(Xk (show[Y]=[Value.string s]from e2)).1;exact⟨(z0,L,s.data.toList,ts,es,bs,os),c3,c4,c5,Z,rfl,r3,⟨r4,ad⟩,r5,r6,hs,ac,ae,af,ag⟩
theorem opens_st_zero {D:Nat}:zm2 enc W D D 0:=fun v x h c=>by
 rcases zco Tryz.underlying32 cells_st h c with rfl|⟨a,len,cap,m,hm,rfl,u,G,g⟩
 ·exact⟨[],⟨none,0,rfl⟩,trivial⟩
 ·obtain rfl:m=1:=by omega
  rcases X1 len with rfl|j
  ·exact⟨[],⟨some a,cap,rfl⟩,trivial⟩
  ·obtain⟨cs,y,hlen,I,r,J⟩:=g 0 j;obtain⟨xs,n,L,rfl,M,s,t⟩:=Xm Tryz.underlying124 r;obtain rfl:n=0:=by omega
   have g0:=t 0 _ rfl;have U:xs.length=7:=s;rw[Y6 (by omega)]at g0;simp[DataW.trod]at g0
theorem opens_st_succ {D k:Nat} (hk:k<=D) (IH:zm2 enc W D D k):zm2 enc W D D (k+1):=fun v x h hr=>by
 rcases zco Tryz.underlying32 cells_st h hr with rfl|⟨a,len,cap,m,hm,rfl,hl,U,hx⟩
 ·exact⟨[],⟨none,0,rfl,fun j t c=>by simp at c⟩,by simp,by simp⟩
 ·obtain rfl:m=2*k+3:=by omega
  rw[bytes_st]at U;unfold reachBytes at U;have each:∀i,i<len->∃q:St D D (k+1)×Value×Value×Value×Value,(W.cell? (a.add (i*7))=some (Zi (sAt q.1))/\W.cell? (a.add (i*7+1))=some (Zi (zii q.1))/\W.cell? (a.add (i*7+2))=some (.string ⟨(zb4 q.1).toArray⟩)/\W.cell? (a.add (i*7+3))=some q.2.1/\W.cell? (a.add (i*7+4))=some q.2.2.1/\W.cell? (a.add (i*7+5))=some q.2.2.2.1/\W.cell? (a.add (i*7+6))=some q.2.2.2.2) /\
    (TyRow W D q.2.1 (sT q.1)/\(ExRow W D D q.2.2.1 (sX q.1)/\ExCap W D D q.2.2.1 (sX q.1))/\StRow W D D k q.2.2.2.1 (sB q.1)/\StRow W D D k q.2.2.2.2 (sE q.1))/\(zb4 q.1).length<=140737488351232/\TyWf D (sT q.1)/\ExWf D D (sX q.1)/\StWf D D k (sB q.1)/\StWf D D k (sE q.1):=by
   intro i u;obtain⟨cs,y,hlen,g,c,aa⟩:=hx i u;obtain⟨t,vt,vx,vb,ve,rfl,G,I,J,L,r5⟩:=open_st_cells hk IH c aa;exact⟨(t,vt,vx,vb,ve),⟨by simpa using g 0 (by omega),by simpa using g 1 (by omega),by simpa using g 2 (by omega),by simpa using g 3 (by omega),by simpa using g 4 (by omega),by simpa using g 5 (by omega),by simpa using g 6 (by omega)⟩,⟨G,I,J,L⟩,r5⟩
  have ae:Inhabited (St D D (k+1)×Value×Value×Value×Value):=⟨((0,0,[],[],[],[],[]),.bool true,.bool true,.bool true,.bool true)⟩
  obtain⟨q,M⟩:=choose_lt each;have ab:∀j t,((List.range len).map fun i=>(q i).1)[j]?=some t->∃r:j<len,(q j).1=t:=fun j t c=>by
   rw[Xd]at c;have r:j<len:=by
    rcases YW j len with h|h
    ·exact h
    ·rw[X9 (by simpa using h)]at c;cases c
   rw[XH r]at c;exact⟨r,by simpa using c⟩
  have ac:0<len->∃b o,a=⟨b,o,none⟩:=fun h0=>by
   obtain⟨⟨ad,_⟩,_⟩:=M 0 h0;obtain⟨b,o,sp⟩:=a;obtain rfl:sp=none:=by simpa[Addr.add]using World.cell?_spot ad
   exact⟨b,o,rfl⟩
  refine⟨(List.range len).map fun i=>(q i).1,⟨some a,cap,by simp,fun j t c=>?_⟩,by simp;omega,fun s hs=>?_⟩
  ·obtain⟨r,rfl⟩:=ab j t c;obtain⟨⟨V,Y,Z,c3,c4,c5,c6⟩,⟨G,I,J,L⟩,_⟩:=M j r;obtain⟨b,o,rfl⟩:=ac (by omega);rw[YT]at V Y Z c3 c4 c5 c6;exact⟨b,o,_,_,_,_,rfl,V,by simpa[YR]using Y,by simpa[YR]using Z,by simpa[YR]using c3,by simpa[YR]using c4,by simpa[YR]using c5,by simpa[YR]using c6,G,I,J,L⟩
  ·obtain⟨i,u,rfl⟩:=YF.1 hs;exact(M i (Yy.1 u)).2.2
theorem opens_st {D:Nat}:∀k,k<=D->zm2 enc W D D k
 | 0,_=>opens_st_zero
 | k+1,h=>opens_st_succ (by omega) (opens_st k (by omega))
end
open Go Go.RowKit Lx
def szX (D:Nat):(d:Nat)->Ex D d->Nat
 | 0,_=>0
 | d+1,x=>1+(xS x).length+(xNs x).length+zgm (xNs x)+szL D (xT x)+((xPs x).map (szX D d)).sum
def zdp (D d:Nat) (xs:List (Ex D d)):Nat:=(xs.map (szX D d)).sum
theorem szXL_take {D d:Nat} {xs:List (Ex D d)} {k:Nat} (h:k<xs.length):zdp D d (xs.take (k+1))=zdp D d (xs.take k)+szX D d xs[k]:=by
 rw[Yq h];unfold zdp;rw[Yj,Yx];simp
def ExValD (W:Zw) (D:Nat):(d:Nat)->Value->Ex D d->Prop
 | 0,_,_=>False
 | d+1,v,x=>ExVal W D d v x
theorem ExValD.below {w w':Zw} {D:Nat} (c:ZB w w'):∀{d:Nat} {v:Value} {x:Ex D d},ExValD w D d v x->ExValD w' D d v x
 | 0,_,_,h=>h
 | _+1,_,_,h=>ExVal.below h c
def ExCell (W:Zw) (pp:Zo) (k:Nat) (v:Value):Prop:=
 ∃(g o:Nat) (A K N:Int) (S:Zy) (pt pn c:Zo) (nt ct nn cn h c3:Nat),pp=some ⟨g,o,none⟩/\v=.agg #[Zi A,Zi K,Zi N,.string S,.slice pt nt ct,.slice pn nn cn,.slice c h c3] /\
  ZK7 W g (o+k*7) (Zi A) (Zi K) (Zi N) (.string S) (.slice pt nt ct) (.slice pn nn cn) (.slice c h c3)
theorem ExRow.at {w:Zw} {D:Nat}:∀{d:Nat} {pp:Zo} {cp:Nat} {xs:List (Ex D d)},ExRow w D d (.slice pp xs.length cp) xs->∀(k:Nat) (j:k<xs.length),∃v,ExCell w pp k v/\ExValD w D d v xs[k]
 | 0,_,_,xs,_,k,j=>by
  match xs,j with
  | t::_,_=>exact nomatch t
 | d+1,pp,cp,xs,h,k,j=>by
  obtain⟨p,c,e,hp⟩:=h;injection e with x M U
  subst x;obtain⟨g,o,vt,vn,vp,rfl,a0,G,a2,a3,a4,a5,I,r,J,s⟩:=hp k xs[k] (by simp);obtain⟨pt,ct,rfl⟩:=r.slice;obtain⟨pn,cn,rfl,L⟩:=J;obtain⟨u,c3,rfl⟩:=s.slice;exact⟨_,⟨g,o,_,_,_,_,pt,pn,u,_,ct,_,cn,_,c3,rfl,rfl,a0,G,a2,a3,a4,a5,I⟩,pt,pn,u,ct,cn,c3,rfl,r,⟨pn,cn,rfl,L⟩,s⟩
def WfX (D:Nat):(d:Nat)->Ex D d->Prop
 | 0,_=>False
 | d+1,x=>(xS x).length<=140737488351232/\(xNs x).length<=140737488351232/\(∀s∈xNs x,s.length<=140737488351232)/\((xT x).length<=140737488351232/\∀t∈xT x,WfD D t)/\(xPs x).length<=140737488351232/\∀u∈xPs x,WfX D d u
theorem ExWf.each {D:Nat}:∀{d:Nat} {xs:List (Ex D d)},ExWf D d xs->xs.length<=140737488351232/\∀u∈xs,WfX D d u
 | 0,[],_=>⟨by simp,by simp⟩
 | 0,t::_,_=>nomatch t
 | d+1,xs,h=>⟨h.1,fun u hu=>by
  obtain⟨c,g,j,r,s⟩:=h.2 u hu;obtain⟨x,G⟩:=ExWf.each s;exact⟨c.1,g,j,TyWf.each r,x,G⟩⟩
abbrev zad (A K N:Int) (S:Zy) (pt pn pp:Zo) (nt nn np ct cn cp:Nat):Obj:=.cells #[Zi A,Zi K,Zi N,.string S,.slice pt nt ct,.slice pn nn cn,.slice pp np cp] 62
theorem Jx {A K N:Int} {S:Zy} {pt pn pp:Zo} {nt nn np ct cn cp:Nat} {w wr:Zw} (c:Below (w.alloc (zad A K N S pt pn pp nt nn np ct cn cp)).heap.size (w.alloc (zad A K N S pt pn pp nt nn np ct cn cp)) wr) :
  ZL7 wr w.heap.size (Zi A) (Zi K) (Zi N) (.string S) (.slice pt nt ct) (.slice pn nn cn) (.slice pp np cp):=by
 have h:∀j,wr.cell? ⟨w.heap.size,j,none⟩=(#[Zi A,Zi K,Zi N,.string S,.slice pt nt ct,.slice pn nn cn,.slice pp np cp])[j]?:=fun j=>by
  rw[c.cell (p:=⟨w.heap.size,j,none⟩) (by simp),Ya _ _ _ _ rfl]
 exact⟨h 0,h 1,h 2,h 3,h 4,h 5,h 6⟩
def SizeXAt (D d:Nat):Prop:=∀(t:Ex D d) (v:Value) (q:Int) (c:Nat) (w:Zw),q=c->ExValD w D d v t->WfX D d t->1<=c->c<=100000 ->
 Zg 78 #[v,Zi q] w fun e w'=>(∃n:Nat,e=.returned (Zi (n:Nat))/\n<=c+422212465053696/\(n<c->n=szX D d t))/\ZB w w'
theorem sizeX_step (D d:Nat) (IH:SizeXAt D d):SizeXAt D (d+1):=fun t v q r w Z hv hw h1 av=>by
 subst Z;obtain⟨pt,pn,pp,ct,cn,cp,rfl,r1,r2,r3⟩:=hv;obtain⟨w1,w2,w3,⟨w4,w5⟩,w6,w7⟩:=hw;obtain⟨A,K,N,S,s,ns,xs⟩:=t;dsimp only[xAt,zfi,xN,xS,xT,xNs,xPs]at *;have aj:ZB w (w.alloc (zad A K N ⟨S.toArray⟩ pt pn pp s.length ns.length xs.length ct cn cp)):=Za _ _;obtain⟨p,c,e,hp⟩:=r2;injection e with e1 e2 e3
 subst e1 e3;have Y:ZH (∀k (L:k<ns.length),∃g o,pn=some ⟨g,o,none⟩/\w.cell? ⟨g,o+k,none⟩=some (.string ⟨ns[k].toArray⟩)/\ns[k].length<=140737488351232):=fun k L=>by
  obtain⟨g,o,e,a⟩:=hp k ns[k] (by simp);exact⟨g,o,e,a,w3 _ (by simp)⟩
 have ak:ZH (∀k (L:k<s.length),∃u,zi3 w pt k u/\∀(q:Int) (r:Nat) W,q=r->ZB w W->1<=r->r<=100000->Zg 16 #[u,Zi q] W fun e w'=>(∃n:Nat,e=.returned (Zi (n:Nat))/\n<=r+422212465053696/\(n<r->n=szD D s[k]))/\ZB W w'):=fun k L=>by
  obtain⟨u,hu,hv⟩:=r1.at k L;exact⟨u,hu,fun q r W Z hW h1 h2=>zgi D _ u q r W Z (TyValD.below hW hv) (w5 _ (by simp)) h1 h2⟩
 have HP:ZH (∀k (L:k<xs.length),∃u,ExCell w pp k u/\∀(q:Int) (r:Nat) W,q=r->ZB w W->1<=r->r<=100000->Zg 78 #[u,Zi q] W fun e w'=>(∃n:Nat,e=.returned (Zi (n:Nat))/\n<=r+422212465053696/\(n<r->n=szX D d xs[k]))/\ZB W w'):=fun k L=>by
  obtain⟨u,hu,hv⟩:=r3.at k L;exact⟨u,hu,fun q r W Z hW h1 h2=>IH _ u q r W Z (ExValD.below hW hv) (w7 _ (by simp)) h1 h2⟩
 have am:ZH (szX D (d+1) (A,K,N,S,s,ns,xs)=1+S.length+ns.length+zgm ns+szL D s+zdp D d xs):=rfl;have HA:=J3 aj;have hS:S.toArray.size=S.length:=by simp
 have aw:ByteArray.size ⟨S.toArray⟩=S.length:=hS;clear hp r1 r3 IH aj w3 w5 w7;go_enter Tryz.func78,Tryz.ntmps78;go_upto_block 0 with fail
 go_cut [5] (fun nn wx=>∃(m1:Nat) (Wy:Zw),nn=Zi m1/\Wy=wx/\m1<=r+422212465053696/\ZH (m1<r->m1=1+S.length+ns.length+zgm ns)/\ZH (Below (w.alloc (zad A K N ⟨S.toArray⟩ pt pn pp s.length ns.length xs.length ct cn cp)).heap.size (w.alloc (zad A K N ⟨S.toArray⟩ pt pn pp s.length ns.length xs.length ct cn cp)) Wy))
 case first=>
  go_wp2_with fail
  go_loopg [5,6] ns.length (fun gk nn i wr=>∃k m:Nat,i=Zi k/\nn=Zi m/\k+gk=ns.length/\m<=r+422212465053696/\ZH (m<r->m=1+S.length+ns.length+zgm (ns.take k))/\ZH (Below (w.alloc (zad A K N ⟨S.toArray⟩ pt pn pp s.length ns.length xs.length ct cn cp)).heap.size (w.alloc (zad A K N ⟨S.toArray⟩ pt pn pp s.length ns.length xs.length ct cn cp)) wr))
  case atStart=>exact⟨0,1+S.length+ns.length,rfl,by go_num,by omega,by omega,(by show _->_;intro _;simp[zgm]),Zr⟩
  case round=>
   obtain⟨k,m,rfl,rfl,L,hm,HM,G⟩:=hrel;obtain⟨d0,d1,d2,d3,d4,d5,d6⟩:=Jx G;by_cases M:k<ns.length/\m<r
   ·obtain⟨I,aa⟩:=M;obtain⟨g,o,rfl,a0,hl⟩:=Y k I;have b0:=((HA.trans (G.mono (by simp))).cell (p:=⟨g,_,none⟩) (J2 a0)).trans a0;have al:(k:Int)<(ns.length:Int):=by omega
    have ax:(m:Int)<(r:Int):=by omega
    have hz:ByteArray.size ⟨ns[k].toArray⟩=ns[k].length:=by show ns[k].toArray.size=_;simp
    clear a0;go_wp2;go_roundg (ns.length-(k+1))
    case measure=>omega
    case rel=>exact⟨k+1,m+ns[k].length,by go_num,by go_num,by omega,by omega,(by have:=HM aa;show _->_;intro _;rw[sumL_take I];omega),G⟩
   ·have an:ZH (m<r->m=1+S.length+ns.length+zgm ns):=fun h=>by
     have ao:k=ns.length:=by omega
     have:=HM h;rw[ao,Yr]at this;exact this
    have hx:((k:Int)<(ns.length:Int)/\(r:Int)<=(m:Int))∨¬(k:Int)<(ns.length:Int):=by omega
    clear M HM;rcases hx with⟨I,aa⟩|I
    all_goals
     go_wp2;go_meet
     case rel=>exact⟨m,_,rfl,rfl,hm,an,G⟩
 case rest=>
  obtain⟨m1,W1,rfl,rfl,ab,ac,ad⟩:=hcut;clear Y;go_upto_block 2 with fail
  go_cut [5] (fun nn wx=>∃(m1:Nat) (Wy:Zw),nn=Zi m1/\Wy=wx/\m1<=r+422212465053696/\ZH (m1<r->m1=1+S.length+ns.length+zgm ns+szL D s)/\ZH (Below (w.alloc (zad A K N ⟨S.toArray⟩ pt pn pp s.length ns.length xs.length ct cn cp)).heap.size (w.alloc (zad A K N ⟨S.toArray⟩ pt pn pp s.length ns.length xs.length ct cn cp)) Wy))
  case first=>
   go_wp2_with fail
   go_loopg [5,7] s.length (fun gk nn i wr=>∃k m:Nat,i=Zi k/\nn=Zi m/\k+gk=s.length/\m<=r+422212465053696/\ZH (m<r->m=1+S.length+ns.length+zgm ns+szL D (s.take k))/\ZH (Below (w.alloc (zad A K N ⟨S.toArray⟩ pt pn pp s.length ns.length xs.length ct cn cp)).heap.size (w.alloc (zad A K N ⟨S.toArray⟩ pt pn pp s.length ns.length xs.length ct cn cp)) wr))
   case atStart=>exact⟨0,m1,rfl,rfl,by omega,ab,(by show _->_;intro h;have:=ac h;simp[szL];omega),ad⟩
   case round=>
    obtain⟨j,n,rfl,rfl,hj,hn,Y,G⟩:=hrel;obtain⟨d0,d1,d2,d3,d4,d5,d6⟩:=Jx G;by_cases M:j<s.length/\n<r
    ·obtain⟨I,ae⟩:=M;obtain⟨u,⟨g,o,K',S',qn,qe,q3,nn,c1,ne,c2,n3,c3,rfl,rfl,a0,V,a2,a3,a4⟩,HI⟩:=ak j I;have x:=HA.trans (G.mono (by simp));have b0:=(x.cell (p:=⟨g,_,none⟩) (J2 a0)).trans a0;have b1:=(x.cell (p:=⟨g,_,none⟩) (J2 V)).trans V;have b2:=(x.cell (p:=⟨g,_,none⟩) (J2 a2)).trans a2;have b3:=(x.cell (p:=⟨g,_,none⟩) (J2 a3)).trans a3;have b4:=(x.cell (p:=⟨g,_,none⟩) (J2 a4)).trans a4;have al:(j:Int)<(s.length:Int):=by omega
     have ap:(n:Int)<(r:Int):=by omega
     have CL:=J3 (HI ((r:Int)-n) (r-n) wr (by omega) x (by omega) (by omega));clear HI a0 V a2 a3 a4 x;go_wp2_with (go_at_call 16;refine CL.mono ?_;clear CL;rintro e w1 ⟨⟨z,rfl,aq,af⟩,ag⟩);go_roundg (s.length-(j+1))
     case measure=>omega
     case rel=>exact⟨j+1,n+z,by go_num,by go_num,by omega,by omega,(by have:=Y ae;show _->_;intro h;have:=af (by omega);rw[zgn I];omega),(Zn G ag)⟩
    ·have ar:ZH (n<r->n=1+S.length+ns.length+zgm ns+szL D s):=fun h=>by
      have ah:j=s.length:=by omega
      have:=Y h;rw[ah,Yr]at this;exact this
     have hx:((j:Int)<(s.length:Int)/\(r:Int)<=(n:Int))∨¬(j:Int)<(s.length:Int):=by omega
     clear M Y;rcases hx with⟨I,aa⟩|I
     all_goals
      go_wp2;go_meet
      case rel=>exact⟨n,_,rfl,rfl,hn,ar,G⟩
  case rest=>
   clear ab ac ad ak;obtain⟨m1,W1,rfl,rfl,ab,ac,ad⟩:=hcut;go_wp2_with fail
   go_loopg [5,8] xs.length (fun gk nn i wr=>∃k m:Nat,i=Zi k/\nn=Zi m/\k+gk=xs.length/\m<=r+422212465053696/\ZH (m<r->m=1+S.length+ns.length+zgm ns+szL D s+zdp D d (xs.take k))/\ZH (Below (w.alloc (zad A K N ⟨S.toArray⟩ pt pn pp s.length ns.length xs.length ct cn cp)).heap.size (w.alloc (zad A K N ⟨S.toArray⟩ pt pn pp s.length ns.length xs.length ct cn cp)) wr))
   case atStart=>exact⟨0,m1,rfl,rfl,by omega,ab,(by show _->_;intro h;have:=ac h;simp[zdp];omega),ad⟩
   case round=>
    obtain⟨U,J,rfl,rfl,ay,au,ai,G⟩:=hrel;obtain⟨d0,d1,d2,d3,d4,d5,d6⟩:=Jx G;by_cases M:U<xs.length/\J<r
    ·obtain⟨I,ae⟩:=M;obtain⟨u,⟨g,o,A',K',N',S',qt,qn,q3,nt,c1,nn,c2,n3,c3,rfl,rfl,a0,V,a2,a3,a4,a5,a6⟩,HI⟩:=HP U I;have x:=HA.trans (G.mono (by simp));have b0:=(x.cell (p:=⟨g,_,none⟩) (J2 a0)).trans a0;have b1:=(x.cell (p:=⟨g,_,none⟩) (J2 V)).trans V;have b2:=(x.cell (p:=⟨g,_,none⟩) (J2 a2)).trans a2;have b3:=(x.cell (p:=⟨g,_,none⟩) (J2 a3)).trans a3;have b4:=(x.cell (p:=⟨g,_,none⟩) (J2 a4)).trans a4;have b5:=(x.cell (p:=⟨g,_,none⟩) (J2 a5)).trans a5;have b6:=(x.cell (p:=⟨g,_,none⟩) (J2 a6)).trans a6;have al:(U:Int)<(xs.length:Int):=by omega
     have ap:(J:Int)<(r:Int):=by omega
     have CL:=J3 (HI ((r:Int)-J) (r-J) wr (by omega) x (by omega) (by omega));clear HI a0 V a2 a3 a4 a5 a6 x;go_wp2_with (go_at_call 78;refine CL.mono ?_;clear CL;rintro e w1 ⟨⟨z,rfl,aq,af⟩,ag⟩);go_roundg (xs.length-(U+1))
     case measure=>omega
     case rel=>exact⟨U+1,J+z,by go_num,by go_num,by omega,by omega,(by have:=ai ae;show _->_;intro h;have:=af (by omega);rw[szXL_take I];omega),(Zn G ag)⟩
    ·have HE:ZH (J<r->J=szX D (d+1) (A,K,N,S,s,ns,xs)):=fun h=>by
      have ah:U=xs.length:=by omega
      have:=ai h;rw[ah,Yr]at this;rw[J0 am];exact this
     have hx:((U:Int)<(xs.length:Int)/\(r:Int)<=(J:Int))∨¬(U:Int)<(xs.length:Int):=by omega
     clear M ai HP;rcases hx with⟨I,aa⟩|I
     all_goals
      go_wp2;go_ret;exact⟨⟨J,rfl,au,HE⟩,HA.trans (G.mono (by simp))⟩
theorem sizeX_any (D:Nat):∀d,SizeXAt D d
 | 0=>fun t=>nomatch t
 | d+1=>sizeX_step D d (sizeX_any D d)
def zeh (D d:Nat):(m:Nat)->List (St D d m)->Nat
 | 0,_=>0
 | m+1,c=>(c.map fun s=>1+(zb4 s).length+szL D (sT s)+zdp D d (sX s)+zeh D d m (sB s)+zeh D d m (sE s)).sum
abbrev SizeTo (F:FuncId) (v:Value) (z:Nat) (w:Zw):Prop:=∀(q:Int) (c:Nat) (W:Zw),q=c->ZB w W->1<=c->c<=100000->Zg F #[v,Zi q] W fun e w'=>(∃n:Nat,e=.returned (Zi (n:Nat))/\n<=c+422212465053696/\(n<c->n=z))/\ZB W w'
def sumR (zs:Nat->Nat) (k:Nat):Nat:=((List.range k).map zs).sum
theorem sumR_succ (zs:Nat->Nat) (k:Nat):sumR zs (k+1)=sumR zs k+zs k:=by unfold sumR;rw[YA,Yj,Yx];simp
theorem sizeS_run (D d:Nat) (p:Zo) (n c r:Nat) (w:Zw) (zs:Nat->Nat) (hn:n<=140737488351232) (h1:1<=r) (aB:r<=100000)
  (hP:∀k,k<n->∃(g o:Nat) (S:Bs) (pt px pb pe:Zo) (s:List (Ty D)) (xs:List (Ex D d)) (nb ne ct cx cb ce zb ze:Nat),p=some ⟨g,o,none⟩ /\
   w.cell? ⟨g,o+k*7+2,none⟩=some (.string ⟨S.toArray⟩)/\w.cell? ⟨g,o+k*7+3,none⟩=some (.slice pt s.length ct)/\w.cell? ⟨g,o+k*7+4,none⟩=some (.slice px xs.length cx)/\w.cell? ⟨g,o+k*7+5,none⟩=some (.slice pb nb cb)/\w.cell? ⟨g,o+k*7+6,none⟩=some (.slice pe ne ce) /\
   (S.length<=140737488351232/\s.length<=140737488351232/\xs.length<=140737488351232)/\(∀j (hj:j<s.length),∃u,zi3 w pt j u/\SizeTo 16 u (szD D s[j]) w)/\(∀j (hj:j<xs.length),∃u,ExCell w px j u/\SizeTo 78 u (szX D d xs[j]) w) /\
   SizeTo 48 (.slice pb nb cb) zb w/\SizeTo 48 (.slice pe ne ce) ze w/\zs k=1+S.length+szL D s+zdp D d xs+zb+ze) :
  Zg 48 #[.slice p n c,Zi (r:Int)] w fun e w'=>(∃m:Nat,e=.returned (Zi (m:Nat))/\m<=r+422212465053696/\(m<r->m=sumR zs n))/\ZB w w':=by
 have HP:=J3 hP;clear hP;go_enter Tryz.func48,Tryz.ntmps48;go_wp2
 go_loopw [5,6] (fun nn i wr=>∃k m:Nat,i=Zi k/\nn=Zi m/\k<=n/\m<=r+422212465053696/\ZH (m<r->m=sumR zs k)/\ZH (ZB w wr)) (fun _ i _=>n-(intOf i).toNat)
 case atStart=>exact⟨0,0,rfl,rfl,by omega,by omega,(by show _->_;intro _;rfl),Zr⟩
 case round=>
  obtain⟨k,m,rfl,rfl,hk,hm,HM,HB⟩:=hrel;by_cases J:k<n/\m<r
  ·obtain⟨ad,an⟩:=J;obtain⟨g,o,S,pt,px,pb,pe,s,xs,nb,ne,ct,cx,cb,ce,zb,ze,rfl,a2,a3,a4,a5,a6,⟨l1,l2,l3⟩,hT,hX,ao,ap,aq⟩:=HP k ad;have aC:(k:Int)<(n:Int):=by omega
   have aD:(m:Int)<(r:Int):=by omega
   have HC:ZH (∀W,ZB w W->W.cell? ⟨g,o+k*7+2,none⟩=some (.string ⟨S.toArray⟩)/\W.cell? ⟨g,o+k*7+3,none⟩=some (.slice pt s.length ct)/\W.cell? ⟨g,o+k*7+4,none⟩=some (.slice px xs.length cx)/\W.cell? ⟨g,o+k*7+5,none⟩=some (.slice pb nb cb)/\W.cell? ⟨g,o+k*7+6,none⟩=some (.slice pe ne ce)):=fun W h=>⟨(h.cell (p:=⟨g,_,none⟩) (J2 a2)).trans a2,(h.cell (p:=⟨g,_,none⟩) (J2 a3)).trans a3,(h.cell (p:=⟨g,_,none⟩) (J2 a4)).trans a4,(h.cell (p:=⟨g,_,none⟩) (J2 a5)).trans a5,(h.cell (p:=⟨g,_,none⟩) (J2 a6)).trans a6⟩
   have HT:=J3 hT;have HX:=J3 hX;have ar:=J3 ao;have av:=J3 ap;have hz:ByteArray.size ⟨S.toArray⟩=S.length:=by show S.toArray.size=_;simp
   have au:=HM an;have HZ:ZH (sumR zs (k+1)=m+1+S.length+szL D s+zdp D d xs+zb+ze):=by show _=_;rw[sumR_succ,aq,<-au];omega
   obtain⟨f2,f3,f4,f5,f6⟩:=HC _ HB;clear a2 a3 a4 a5 a6 hT hX ao ap HM au aq HP;go_upto_block 2 with fail
   go_cut [5] (fun nn wx=>∃(m1:Nat) (L:Zw),nn=Zi m1/\L=wx/\m1<=r+422212465053696/\ZH (m1<r->m1=m+1+S.length+szL D s)/\ZH (ZB w L))
   case first=>
    go_wp2_with fail
    go_loopg [5,7] s.length (fun gk nn i ae=>∃j m2:Nat,i=Zi j/\nn=Zi m2/\j+gk=s.length/\m2<=r+422212465053696/\ZH (m2<r->m2=m+1+S.length+szL D (s.take j))/\ZH (ZB w ae))
    case atStart=>exact⟨0,m+1+S.length,rfl,by go_num,by omega,by omega,(by show _->_;intro _;simp[szL]),HB⟩
    case round=>
     obtain⟨j,m2,rfl,rfl,hj,af,M,G⟩:=hrel;clear f2 f3 f4 f5 f6;obtain⟨f2,f3,f4,f5,f6⟩:=HC _ G;by_cases J:j<s.length/\m2<r
     ·obtain⟨I,ag⟩:=J;obtain⟨u,⟨gt,ot,K',S',qn,qe,q3,aw,c1,aE,c2,n3,c3,rfl,rfl,b0,U,V,Y,Z⟩,HI⟩:=HT j I;have t:=J0 G;have e0:=(t.cell (p:=⟨gt,_,none⟩) (J2 b0)).trans b0;have e1:=(t.cell (p:=⟨gt,_,none⟩) (J2 U)).trans U;have e2:=(t.cell (p:=⟨gt,_,none⟩) (J2 V)).trans V;have e3:=(t.cell (p:=⟨gt,_,none⟩) (J2 Y)).trans Y;have e4:=(t.cell (p:=⟨gt,_,none⟩) (J2 Z)).trans Z;have ax:(j:Int)<(s.length:Int):=by omega
      have ay:(m2:Int)<(r:Int):=by omega
      have CL:=J3 (HI ((r:Int)-m2) (r-m2) _ (by omega) t (by omega) (by omega));clear HI b0 U V Y Z t;go_wp2_with (go_at_call 16;refine CL.mono ?_;clear CL;rintro e w1 ⟨⟨z,rfl,ah,aa⟩,ai⟩);go_roundg (s.length-(j+1))
      case measure=>omega
      case rel=>exact⟨j+1,m2+z,by go_num,by go_num,by omega,by omega,(by have:=M ag;show _->_;intro h;have:=aa (by omega);rw[zgn I];omega),Zn G ai⟩
     ·have aj:ZH (m2<r->m2=m+1+S.length+szL D s):=fun h=>by
       have ak:j=s.length:=by omega
       have:=M h;rw[ak,Yr]at this;exact this
      have hx:((j:Int)<(s.length:Int)/\(r:Int)<=(m2:Int))∨¬(j:Int)<(s.length:Int):=by omega
      clear J M;rcases hx with⟨I,az⟩|I
      all_goals
       go_wp2;go_meet
       case rel=>exact⟨m2,_,rfl,rfl,af,aj,G⟩
   case rest=>
    obtain⟨m1,W1,rfl,rfl,ab,ac,x⟩:=hcut;clear f2 f3 f4 f5 f6 HT HB;obtain⟨f2,f3,f4,f5,f6⟩:=HC _ x;go_upto_block 4 with fail
    go_cut [5] (fun nn wx=>∃(m1:Nat) (L:Zw),nn=Zi m1/\L=wx/\m1<=r+422212465053696/\ZH (m1<r->m1=m+1+S.length+szL D s+zdp D d xs)/\ZH (ZB w L))
    case first=>
     go_wp2_with fail
     go_loopg [5,8] xs.length (fun gk nn i ae=>∃j m2:Nat,i=Zi j/\nn=Zi m2/\j+gk=xs.length/\m2<=r+422212465053696/\ZH (m2<r->m2=m+1+S.length+szL D s+zdp D d (xs.take j))/\ZH (ZB w ae))
     case atStart=>exact⟨0,m1,rfl,rfl,by omega,ab,(by show _->_;intro h;have:=ac h;simp[zdp];omega),x⟩
     case round=>
      obtain⟨j,m2,rfl,rfl,hj,af,M,G⟩:=hrel;clear f2 f3 f4 f5 f6;obtain⟨f2,f3,f4,f5,f6⟩:=HC _ G;by_cases J:j<xs.length/\m2<r
      ·obtain⟨I,ag⟩:=J;obtain⟨u,⟨gt,ot,A',K',N',S',qt,qn,q3,aF,c1,aw,c2,n3,c3,rfl,rfl,b0,U,V,Y,Z,b5,b6⟩,HI⟩:=HX j I;have t:=J0 G;have e0:=(t.cell (p:=⟨gt,_,none⟩) (J2 b0)).trans b0;have e1:=(t.cell (p:=⟨gt,_,none⟩) (J2 U)).trans U;have e2:=(t.cell (p:=⟨gt,_,none⟩) (J2 V)).trans V;have e3:=(t.cell (p:=⟨gt,_,none⟩) (J2 Y)).trans Y;have e4:=(t.cell (p:=⟨gt,_,none⟩) (J2 Z)).trans Z;have e5:=(t.cell (p:=⟨gt,_,none⟩) (J2 b5)).trans b5;have e6:=(t.cell (p:=⟨gt,_,none⟩) (J2 b6)).trans b6;have ax:(j:Int)<(xs.length:Int):=by omega
       have ay:(m2:Int)<(r:Int):=by omega
       have CL:=J3 (HI ((r:Int)-m2) (r-m2) _ (by omega) t (by omega) (by omega));clear HI b0 U V Y Z b5 b6 t;go_wp2_with (go_at_call 78;refine CL.mono ?_;clear CL;rintro e w1 ⟨⟨z,rfl,ah,aa⟩,ai⟩);go_roundg (xs.length-(j+1))
       case measure=>omega
       case rel=>exact⟨j+1,m2+z,by go_num,by go_num,by omega,by omega,(by have:=M ag;show _->_;intro h;have:=aa (by omega);rw[szXL_take I];omega),Zn G ai⟩
      ·have aj:ZH (m2<r->m2=m+1+S.length+szL D s+zdp D d xs):=fun h=>by
        have ak:j=xs.length:=by omega
        have:=M h;rw[ak,Yr]at this;exact this
       have hx:((j:Int)<(xs.length:Int)/\(r:Int)<=(m2:Int))∨¬(j:Int)<(xs.length:Int):=by omega
       clear J M;rcases hx with⟨I,az⟩|I
       all_goals
        go_wp2;go_meet
        case rel=>exact⟨m2,_,rfl,rfl,af,aj,G⟩
    case rest=>
     clear ac x ab HX f2 f3 f4 f5 f6;obtain⟨m1,W1,rfl,rfl,ab,ac,x⟩:=hcut;obtain⟨f2,f3,f4,f5,f6⟩:=HC _ x;go_upto_if 89 with fail
     go_cut [5] (fun nn wx=>∃(m1:Nat) (L:Zw),nn=Zi m1/\L=wx/\m1<=r+422212465053696/\ZH (m1<r->m1=m+1+S.length+szL D s+zdp D d xs+zb)/\ZH (ZB w L))
     case first=>
      by_cases c1:m1<r
      ·have al:(m1:Int)<(r:Int):=by omega
       have CB:=J3 (J0 ar ((r:Int)-m1) (r-m1) _ (by omega) x (by omega) (by omega));go_wp2_with (go_at_call 48;refine CB.mono ?_;clear CB;rintro e w2 ⟨⟨z,rfl,ah,aa⟩,am⟩);go_meet
       case rel=>exact⟨m1+z,_,by go_num,rfl,by omega,(by have:=ac c1;show _->_;intro h;have:=aa (by omega);omega),Zn x am⟩
      ·have al:¬(m1:Int)<(r:Int):=by omega
       go_wp2;go_meet
       case rel=>exact⟨m1,_,rfl,rfl,ab,(by show _->_;intro h;omega),x⟩
     case rest=>
      clear ac x ab ar f2 f3 f4 f5 f6;obtain⟨m1,W1,rfl,rfl,ab,ac,x⟩:=hcut;obtain⟨f2,f3,f4,f5,f6⟩:=HC _ x;by_cases c1:m1<r
      ·have al:(m1:Int)<(r:Int):=by omega
       have CB:=J3 (J0 av ((r:Int)-m1) (r-m1) _ (by omega) x (by omega) (by omega));go_wp2_with (go_at_call 48;refine CB.mono ?_;clear CB;rintro e w2 ⟨⟨z,rfl,ah,aa⟩,am⟩);go_roundw
       case rel=>exact⟨k+1,m1+z,by go_num,by go_num,by omega,by omega,(by have:=ac c1;have:=J0 HZ;show _->_;intro h;have:=aa (by omega);omega),Zn x am⟩
       case measure=>simp[intOf];omega
      ·have al:¬(m1:Int)<(r:Int):=by omega
       go_wp2;go_roundw
       case rel=>exact⟨k+1,m1,by go_num,rfl,by omega,ab,(by show _->_;intro h;omega),x⟩
       case measure=>simp[intOf];omega
  ·have HE:ZH (m<r->m=sumR zs n):=fun h=>by
    have aA:k=n:=by omega
    have:=HM h;rw[aA]at this;exact this
   have hx:((k:Int)<(n:Int)/\(r:Int)<=(m:Int))∨¬(k:Int)<(n:Int):=by omega
   clear J HM HP;rcases hx with⟨ad,an⟩|ad
   all_goals
    go_wp2;go_ret;exact⟨⟨m,rfl,hm,HE⟩,HB⟩
def SizeSsAt (D d m:Nat):Prop:=∀(g:List (St D d m)) (p:Zo) (c:Nat) (w:Zw),StRow w D d m (.slice p g.length c) g->StWf D d m g->SizeTo 48 (.slice p g.length c) (zeh D d m g) w
theorem zlo (D d:Nat):∀m,SizeSsAt D d m
 | 0=>fun r p c w _ _ q t W G L I J=>by
  subst G
  match r with
  | []=>exact sizeS_run D d p 0 c t W (fun _=>0) (by omega) I J fun k hk=>absurd hk (by omega)
  | x::_=>exact nomatch x
 | m+1=>fun r p c w hr aa q t W G L I J=>by
  subst G;have hs:zeh D d (m+1) r=sumR (fun k=>(r[k]?.map fun s=>1+(zb4 s).length+szL D (sT s)+zdp D d (sX s)+zeh D d m (sB s)+zeh D d m (sE s)).getD 0) r.length:=by
   rw[zeh,sumR,zj8,Yr]
  rw[hs];obtain⟨p',c',e,hp⟩:=hr;injection e with e1 e2 e3
  subst e1;refine sizeS_run D d p r.length c t W _ aa.1 I J fun k hk=>?_
  have U:r[k]?=some r[k]:=by simp
  obtain⟨g,o,vt,vx,vb,ve,rfl,a0,a1,a2,a3,a4,a5,a6,r1,r2,r3,r4⟩:=hp k _ U;obtain⟨f1,f2,f3,f4,f5⟩:=aa.2 _ (YK U);obtain⟨pt,ct,rfl⟩:=r1.slice;obtain⟨px,cx,rfl⟩:=r2.1.slice;obtain⟨pb,cb,rfl⟩:=r3.slice;obtain⟨pe,ce,rfl⟩:=r4.slice;obtain⟨t1,t2⟩:=TyWf.each f2;obtain⟨x1,x2⟩:=ExWf.each f3;have up:∀{i:Nat} {v:Value},w.cell? ⟨g,i,none⟩=some v->W.cell? ⟨g,i,none⟩=some v:=fun h=>(L.cell (p:=⟨g,_,none⟩) (J2 h)).trans h
  refine⟨g,o,zb4 r[k],pt,px,pb,pe,sT r[k],sX r[k],(sB r[k]).length,(sE r[k]).length,ct,cx,cb,ce,zeh D d m (sB r[k]),zeh D d m (sE r[k]),rfl,up a2,up a3,up a4,up a5,up a6,⟨f1,t1,x1⟩,fun j M=>?_,fun j M=>?_,?_,?_,by rw[U];rfl⟩
  ·obtain⟨u,hu,V⟩:=(TyRow.below L D r1).at j M;exact⟨u,hu,fun q t Y G Z I J=>zgi D _ u q t Y G (TyValD.below Z V) (t2 _ (Ys M)) I J⟩
  ·obtain⟨u,hu,V⟩:=(ExRow.below L d r2.1).at j M;exact⟨u,hu,fun q t Y G Z I J=>sizeX_any D d _ u q t Y G (ExValD.below Z V) (x2 _ (Ys M)) I J⟩
  ·exact zlo D d m _ pb cb W (StRow.below L m r3) f4
  ·exact zlo D d m _ pe ce W (StRow.below L m r4) f5
end Go.Proofs.YtdcbglnhhbmpgaaGreatDoor
namespace Go.Proofs.YtdcbglnhhbmpgaaGreatDoor
open Go Go.RowKit Lx
theorem exfits_of {D:Nat}:∀{d:Nat} {xs:List (Ex D d)},zdp D d xs<=1000000->ExWf D d xs->ExFits D d xs
 | 0,_,_,_=>trivial
 | d+1,xs,hz,hw=>by
  have hlen:xs.length<=zdp D (d+1) xs:=by
   clear hz hw
   induction xs with
   | nil=>simp
   | cons x r h=>
    have:1<=szX D (d+1) x:=by rw[szX];omega
    simp only[zdp,Yf,YM,Yk]at h ⊢;omega
  refine⟨by omega,fun x g=>?_⟩;have j:szX D (d+1) x<=zdp D (d+1) xs:=zbu (YF.2 ⟨x,g,rfl⟩);rw[szX]at j;obtain⟨⟨w1,t,u⟩,M,U,V,G⟩:=hw.2 x g;have I:zdp D d (xPs x)<=1000000:=by unfold zdp;omega
  have c:=exfits_of I G;have J:(xPs x).length<=1000000:=by
   match d,x,c with
   | 0,x,_=>
    rcases g:xPs x with _|⟨y,_⟩
    ·simp
    ·exact nomatch y
   | d+1,x,c=>exact c.1
  have Y:=Yh (zbh _ (xT x)) (zc3 _ (xT x));exact⟨⟨by omega,by omega,zgo (by omega),by omega,fun s L=>by have:=sumL_mem L;omega,J,t,u⟩,c⟩
theorem exlen_of {D:Nat}:∀{d:Nat} {xs:List (Ex D d)},ExFits D d xs->xs.length<=1000000
 | 0,[],_=>by simp
 | 0,x::_,_=>nomatch x
 | _+1,_,h=>h.1
theorem stlen_of {D d:Nat}:∀{m:Nat} {c:List (St D d m)},zen D d m c->c.length<=1000000
 | 0,[],_=>by simp
 | 0,x::_,_=>nomatch x
 | _+1,_,h=>h.1
theorem zlk {D d:Nat}:∀{m:Nat} {c:List (St D d m)},zeh D d m c<=1000000->StWf D d m c->zen D d m c
 | 0,_,_,_=>trivial
 | m+1,c,hz,hw=>by
  have hlen:c.length<=zeh D d (m+1) c:=by
   clear hz hw;rw[zeh]
   induction c with
   | nil=>simp
   | cons x r I=>
    simp only[Yf,YM,Yk];omega
  refine⟨by omega,fun s g=>?_⟩;have J:1+(zb4 s).length+szL D (sT s)+zdp D d (sX s)+zeh D d m (sB s)+zeh D d m (sE s)<=zeh D d (m+1) c:=by
   rw[zeh];exact zbu (YF.2 ⟨s,g,rfl⟩)
  obtain⟨w1,L,t,u,G⟩:=hw.2 s g;have h:=exfits_of (by omega) t;have j:=zlk (show zeh D d m (sB s)<=1000000 by omega) u;have he:=zlk (show zeh D d m (sE s)<=1000000 by omega) G;have M:=Yh (zbh _ (sT s)) (zc3 _ (sT s));exact⟨⟨by omega,zgo (by omega),by omega,h,exlen_of h,stlen_of j,stlen_of he⟩,j,he⟩
end Go.Proofs.YtdcbglnhhbmpgaaGreatDoor
