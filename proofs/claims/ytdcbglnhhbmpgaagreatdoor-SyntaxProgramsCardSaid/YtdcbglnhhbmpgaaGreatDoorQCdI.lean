import Derived.Test.YtdcbglnhhbmpgaaGreatDoorQCdH
set_option maxHeartbeats 2000000
set_option maxRecDepth 100000
namespace Go.Proofs.YtdcbglnhhbmpgaaGreatDoor
open Go Go.RowKit Lx
theorem op_buildD {o:Oper} {a:Act} {w:Zw} {K:Act->Zw->Prop} {Q:Exit->Act->Zw->Prop} {c g:Operand} {X:Zy} {y:T5} (j:o.op=.build 52 #[(1,c),(2,g)]) (r:a.eval c=.string X) (s:a.eval g=y.val)
  (h:K (a.put o.dst (.agg #[Zi 0,.string X,Zi y.K,.string y.S,.slice y.pn y.nn y.cn,.slice y.pe y.ne y.ce,.slice y.pp y.np y.cp])) w):o.wp Tryz.prog a w K Q:=by
 unfold Oper.wp;simp only[execOp,j,Xp,Yf,YG,r,s];go_simp;exact h
def mkD (X:Zy) (f:Nat->Option Value):Option Value:=match f 10 with
 | some (.agg c)=>some (.agg (#[Zi 0,.string X]++c))
 | _=>none
theorem mkD_ok (X:Zy) (A:Zw->Value->Prop):MkOk [(10,A)] (mkD X):=by
 refine⟨fun f i v h=>?_,fun f v e c g=>?_⟩
 ·have j:(10:Nat)≠i:=h (10,A) (by simp);rw[mkD,mkD,J7 f v j]
 ·rw[mkD]at e
  split at e
  ·rename_i r;simp only[Xj,List.not_mem_nil,or_false]at g;subst g;rw[r];simp
  ·cases e
def vD5 (g o k n cd:Nat) (X:Zy) (K:Int) (S:Zy) (pn pe pp:Zo) (nn cn ne ce np cp:Nat):List (Option Value):=[some (.slice (Zs g o) n cd),some (Zi (k:Int)),some (.pointer (Zs g (o+k*7))),some (.pointer (Zs g (o+k*7+1))),some (.string X),some (.slice (Zs g o) n cd),some (Zi (k:Int)),some (.pointer (Zs g (o+k*7))),some (.pointer (Zs g (o+k*7+2))),some (.agg #[Zi K,.string S,.slice pn nn cn,.slice pe ne ce,.slice pp np cp]),none,none,none,none]
def QDe (E:Nat) (W:Zw) (u:List Value) (x:De E):Prop:=∃y:T5,u=[Zi x.1,.string ⟨x.2.1.toArray⟩,Zi y.K,.string y.S,.slice y.pn y.nn y.cn,.slice y.pe y.ne y.ce,.slice y.pp y.np y.cp]/\TyValD W E y.val x.2.2
theorem info_de:(Tryz.prog.info? 52).map (fun i=>(i.zero,i.size,i.bytes))=some (some (.agg #[Zi 0,.string ⟨#[]⟩,Zi 0,.string ⟨#[]⟩,Zz,Zz,Zz]),7,120):=by kernel_rfl
theorem QDe.row {E B:Nat} {W W':Zw} {v:Value} {s:List (De E)} (h:OG 52 7 (QDe E) B W v s) (t:∀j,B<=j->j<W.heap.size->W'.heap[j]?=W.heap[j]?):DeRow W' E v s:=by
 obtain⟨p,c,rfl,hp⟩:=h.cells t;refine⟨p,c,rfl,fun j x G=>?_⟩;obtain⟨g,u,rfl,⟨y,rfl,I⟩,r⟩:=hp j x G;exact⟨g,0,y,rfl,r 0 _ rfl,r 1 _ rfl,⟨r 2 _ rfl,r 3 _ rfl,r 4 _ rfl,r 5 _ rfl,r 6 _ rfl⟩,I⟩
def F2 (E:Nat) (g:List (De E)) (W:Zw) (v:Value):Prop:=∃q c,v=.slice q g.length c/\DeRow W E v g
theorem ownd_any (E:Nat) (p:Zo) (n cd:Nat) (r:List (De E)) (w:Zw) (hv:DeRow w E (.slice p n cd) r) (hz:szDs E r<=1000000) :
  Zg 30 #[.slice p n cd] w fun e w'=>(∃v,e=.returned v/\∀L:Zw,(∀j,w.heap.size<=j->j<w'.heap.size->L.heap[j]?=w'.heap[j]?)->F2 E r L v)/\ZB w w':=by
 have al:=hv.len;obtain⟨_,_,e,hp⟩:=hv;injection e with e1 e2 e3
 subst e1;have ay:r.length<=szDs E r:=zcp _ (fun x=>by omega) _;have HP:=J3 hp;have ab:=J3 al;have HZ:=J3 hz;have hn:n<=1000000:=by omega
 clear hp al e2 e3 hz ay;go_enter Tryz.func30,Tryz.ntmps30;go_wp2
 go_loopw [3,4] (fun o i wr=>∃(k:Nat) (vo:Value),i=Zi k/\vo=o/\k<=n/\ZH (OG 52 7 (QDe E) w.heap.size wr vo (r.take k))/\ZH (ZB w wr)) (fun _ i _=>n-(intOf i).toNat)
 case atStart=>exact⟨0,_,rfl,rfl,by omega,OG.nil _ _,Zr⟩
 case round=>
  obtain⟨k,vo,rfl,rfl,hk,HO,Y⟩:=hrel;by_cases aF:k<n
  rotate_left
  ·obtain rfl:k=n:=by omega
   have ai:¬(k:Int)<(k:Int):=by omega
   have ac:=J0 HO;rw[show r.take k=r by rw[J0 ab,Yr]]at ac;obtain⟨pv,cv,rfl⟩:=ac.slice;have HR:ZH (∀L:Zw,(∀j,w.heap.size<=j->j<_->L.heap[j]?=_)->F2 E r L (.slice pv r.length cv)):=fun L az=>⟨pv,cv,rfl,QDe.row ac az⟩
   clear HO HP ac HZ;go_wp2;go_ret;exact⟨⟨_,rfl,HR⟩,Y⟩
  have ai:(k:Int)<(n:Int):=by omega
  have M:k<r.length:=by have:=J0 ab;omega
  obtain⟨g,o,⟨K,S,pn,pe,pp,nn,cn,ne,ce,np,cp⟩,rfl,a0,a1,a2,a3⟩:=HP k r[k] (by simp[M]);have ad:szD E r[k].2.2<=1000000:=by have:=zls (Ys M);have:=J0 HZ;omega
  have ae:=J3 M;generalize am:r[k]=dk at a0 a1 a3 ad;have af:=J3 am.symm;clear am;obtain⟨A,s,t⟩:=dk;dsimp only at a0 a1 a3 ad;obtain⟨X,J⟩:=Ze (⟨s.toArray⟩:Zy)
  rw[<-J]at a1;have HX:=J3 J;have aa:ZH (∀W,ZB wr W->ZK7 W g (o+k*7) (Zi A) (.string X) (Zi K) (.string S) (.slice pn nn cn) (.slice pe ne ce) (.slice pp np cp)):=fun W h=>by
   have hw:=zax Y h;obtain⟨x1,x2,x3,x4,x5⟩:=a2.below hw;exact⟨(hw.cell (p:=⟨g,_,none⟩) (J2 a0)).trans a0,(hw.cell (p:=⟨g,_,none⟩) (J2 a1)).trans a1,x1,x2,x3,x4,x5⟩
  have OT:ZH (∀V,ZB wr V->Zg 56 #[.agg #[Zi K,.string S,.slice pn nn cn,.slice pe ne ce,.slice pp np cp]] V fun e w'=>(∃v,e=.returned v/\∀L:Zw,(∀j,V.heap.size<=j->j<w'.heap.size->L.heap[j]?=w'.heap[j]?)->F6 E t L v)/\ZB V w'):=fun V h=>own_t5 (TyValD.below (zax Y h) a3) ad
  clear a0 a1 a2 a3 J ad M HP HZ;go_upto_region 5 with fail
  go_cut [5] (fun x wx=>∃(bx:Nat) (y:T5) (U:Zw),x=.pointer (Zs bx 0)/\U=wx/\ZH (SI wr (fun W'=>TyValD W' E y.val t) U.heap.size bx (.cells #[Zi 0,.string X,Zi y.K,.string y.S,.slice y.pn y.nn y.cn,.slice y.pe y.ne y.ce,.slice y.pp y.np y.cp] 52) U))
  case first=>
   obtain⟨B,ag,an,sB,_,aj⟩:=Zx wr
   have cC:∀W,B W->_:=fun W h=>J0 aa W (ag W h)
   have cT:∀W,B W->_:=fun W h=>J0 OT W (ag W h)
   have hm:=mkD_ok X (F6 E t);clear aa OT ab HO Y ae af HX;refine zec (n:=37) (z:=13) Zk Zk Zk Zk rfl rfl rfl B (VP (vD5 g o k n cd X K S pn pe pp nn cn ne ce np cp)) (XG wr.heap.size 12 11 (.cells #[Zi 0,.string ⟨#[]⟩,Zi 0,.string ⟨#[]⟩,Zz,Zz,Zz] 52) [(10,F6 E t)] (mkD X)) (an _ (Jb Zr)) (XG.init _) ?each ?fin
   case each=>
    refine⟨?_,?_,?_,?_,?_,?_,?_,?_,?_,?_,?_,?_,?_,?_,trivial⟩
    ·exact fun _=>Qq hm sB (by simp) (by decide) (by decide) (fun c W G I dep=>⟨J1 rfl,Jp rfl (show c.eval (.tmp 0)=Value.slice (Zs g o) n cd from G 0 Zk) ⟨_,rfl,Zr,rfl⟩⟩)
    ·exact fun _=>Qq hm sB (by simp) (by decide) (by decide) (fun c W G I dep=>⟨J1 rfl,Jp rfl (show c.eval (.tmp 4)=Zi (k:Int)from G 4 Zk) ⟨_,rfl,Zr,rfl⟩⟩)
    ·exact fun _=>Qq hm sB (by simp) (by decide) (by decide) (fun c W G I dep=>⟨J1 rfl,zc6 rfl (dep 0 12 _ Zk Zk rfl) (dep 1 13 _ Zk Zk rfl) ai ⟨_,rfl,Zr,rfl⟩⟩)
    ·exact fun _=>Qq hm sB (by simp) (by decide) (by decide) (fun c W G I dep=>⟨J1 rfl,zgh rfl (dep 2 14 _ Zk Zk rfl) ⟨_,rfl,Zr,rfl⟩⟩)
    ·exact fun _=>Qq hm sB (by simp) (by decide) (by decide) (fun c W G I dep=>⟨J1 rfl,zaz rfl (dep 3 15 _ Zk Zk rfl) (cC W I).2.1 ⟨_,rfl,Zr,rfl⟩⟩)
    ·exact fun _=>Qq hm sB (by simp) (by decide) (by decide) (fun c W G I dep=>⟨J1 rfl,Jp rfl (show c.eval (.tmp 0)=Value.slice (Zs g o) n cd from G 0 Zk) ⟨_,rfl,Zr,rfl⟩⟩)
    ·exact fun _=>Qq hm sB (by simp) (by decide) (by decide) (fun c W G I dep=>⟨J1 rfl,Jp rfl (show c.eval (.tmp 4)=Zi (k:Int)from G 4 Zk) ⟨_,rfl,Zr,rfl⟩⟩)
    ·exact fun _=>Qq hm sB (by simp) (by decide) (by decide) (fun c W G I dep=>⟨J1 rfl,zc6 rfl (dep 5 17 _ Zk Zk rfl) (dep 6 18 _ Zk Zk rfl) ai ⟨_,rfl,Zr,rfl⟩⟩)
    ·exact fun _=>Qq hm sB (by simp) (by decide) (by decide) (fun c W G I dep=>⟨J1 rfl,zgu rfl (dep 7 19 _ Zk Zk rfl) ⟨_,rfl,Zr,rfl⟩⟩)
    ·exact fun _=>Qq hm sB (by simp) (by decide) (by decide) (fun c W G I dep=>⟨J1 rfl,zc8 rfl (dep 8 20 _ Zk Zk rfl) (cC W I).2.2 ⟨_,rfl,Zr,rfl⟩⟩)
    ·exact fun _=>Qr hm (F:=F6 E t) (by simp) (by simp) (by decide) (by decide) rfl rfl rfl sB aj zev (fun c dep=>(dep 9 21 _ Zk Zk rfl)) cT
    ·exact fun _=>GG.build hm (by simp) (by decide) rfl rfl (fun c w' f J dep h8=>by
      have Z:=h8 10 22 Zk Zk;obtain⟨_,_,_,r6,_⟩:=J.1 (10,F6 E t) (by simp) _ Z;obtain⟨y,ey,_⟩:=r6 w' fun _ _ _=>rfl
      refine⟨_,by rw[mkD,Z,ey];rfl,fun K hK=>op_buildD rfl (dep 4 16 _ Zk Zk rfl) ey hK⟩)
    ·exact fun _=>GG.box hm (by simp) (by decide) rfl rfl (fun _=>by kernel_rfl) rfl sB aj
    ·exact fun h=>absurd rfl h
   case fin=>
    intro c W f hz aA G I hf hV J;have Z:=hf 10 22 Zk;have ao:=hf 11 23 Zk;have ap:=hf 12 5 Zk;obtain⟨_,_,_,r6,_⟩:=J.1 (10,F6 E t) (by simp) _ Z;obtain⟨y,ey,_⟩:=r6 W fun _ _ _=>rfl
    have ev:c.tmps.getD 23 undef=.agg #[Zi 0,.string X,Zi y.K,.string y.S,.slice y.pn y.nn y.cn,.slice y.pe y.ne y.ce,.slice y.pp y.np y.cp]:=by
     have h:=J.2.2 _ ao;rw[mkD,Z,ey]at h;exact(Y1 h).symm
    obtain⟨bx,eb,aq,ar⟩:=XG.done (cs:=[Zi 0,.string X,Zi y.K,.string y.S,.slice y.pn y.nn y.cn,.slice y.pe y.ne y.ce,.slice y.pp y.np y.cp]) rfl rfl J (ag W I) ap Zk;refine⟨J1 rfl,wp_store_mid 52 (.tmp 5) (.tmp 23) rfl bx 0 _ eb ev (zf6 aq _ rfl) Zk (all_oneCell_toArray (J9 rfl (J9 rfl (J9 rfl (J9 rfl (J9 rfl (J9 rfl (J9 rfl zhm)))))))) ⟨rfl,?_⟩⟩;have au:ZH (SI wr (fun W'=>TyValD W' E y.val t) (W.setCells bx 0 [Zi 0,.string X,Zi y.K,.string y.S,.slice y.pn y.nn y.cn,.slice y.pe y.ne y.ce,.slice y.pp y.np y.cp]).heap.size bx (.cells #[Zi 0,.string X,Zi y.K,.string y.S,.slice y.pn y.nn y.cn,.slice y.pe y.ne y.ce,.slice y.pp y.np y.cp] 52) (W.setCells bx 0 [Zi 0,.string X,Zi y.K,.string y.S,.slice y.pn y.nn y.cn,.slice y.pe y.ne y.ce,.slice y.pp y.np y.cp])):=by
     obtain⟨s1,s2,s3,s4⟩:=ar;refine⟨s1,s2,s3,fun W' ak=>?_⟩;obtain⟨y',q1,q2⟩:=s4 W' ak (10,F6 E t) (by simp) _ (by rw[Z]);rw[ey]at q1;rw[<-q1]at q2;exact q2
    generalize W.setCells bx 0 [Zi 0,.string X,Zi y.K,.string y.S,.slice y.pn y.nn y.cn,.slice y.pe y.ne y.ce,.slice y.pp y.np y.cp]=Wn at au ⊢;rw[JZ hz rfl aA G];clear hf hV J G ar aq sB aj ag an cC cT I Z ao ap r6 ey ev hm;simp only[List.foldl,Option.getD];rw[eb];go_wp2_with fail;go_meet
    case rel=>exact⟨bx,y,_,rfl,rfl,au⟩
  case rest=>
  obtain⟨bx,y,U,rfl,rfl,HS⟩:=hcut;clear OT;go_upto_region 6 with fail
  go_cut [] (fun wx=>∃Wz:Zw,Wz=wx/\ZH (SI wr (fun W'=>TyValD W' E y.val t) Wz.heap.size bx (.cells #[Zi A,.string X,Zi y.K,.string y.S,.slice y.pn y.nn y.cn,.slice y.pe y.ne y.ce,.slice y.pp y.np y.cp] 52) Wz))
  case first=>
   have HD:ZH (SI wr (fun W'=>TyValD W' E y.val t) U.heap.size bx (.cells #[Zi A,.string X,Zi y.K,.string y.S,.slice y.pn y.nn y.cn,.slice y.pe y.ne y.ce,.slice y.pp y.np y.cp] 52) (U.setCell ⟨bx,0,none⟩ (Zi A))):=by
    have h:=HS.set (i:=0) (Zi A);simp only[Xf,Xu]at h;exact h
   obtain⟨i1,⟨i2,i3,i4⟩,i5,_⟩:=J0 HS;obtain⟨e0,e1,e2,e3,e4,e5,Z⟩:=aa _ i5;have x0:U.cell? ⟨bx,0,none⟩=some (Zi 0):=by rw[Y0 i1];rfl
   have xf:=YH i1 0;clear i1 i2 i3 i4 i5 HS aa HO Y ae af ab;go_wp2_with fail;go_meet
   case rel=>exact⟨_,rfl,(by have h:=J0 HD;rw[show U.heap.size=(U.setCell ⟨bx,0,none⟩ (Zi A)).heap.size by simp]at h;exact h)⟩
  case rest=>
  obtain⟨W5,rfl,av⟩:=hcut;clear HS aa;obtain⟨i1,⟨i2,i3,i4⟩,i5,i6⟩:=J0 av;have R5:W5.rangeAt bx 0 [Zi A,.string X,Zi y.K,.string y.S,.slice y.pn y.nn y.cn,.slice y.pe y.ne y.ce,.slice y.pp y.np y.cp]:=fun j v hv=>by rw[Y0 i1,X3];simpa using hv
  have M:=J0 ae;obtain⟨g',cap,W4,E1,ah,aB,aC,aw⟩:=HO.append (x:=r[k]'M) (u:=[Zi A,.string X,Zi y.K,.string y.S,.slice y.pn y.nn y.cn,.slice y.pe y.ne y.ce,.slice y.pp y.np y.cp]) Tryz.underlying22 info_de rfl (by decide) (by decide) Y.size i5 (fun W' ak=>by
   have h:=i6 W' fun j j1 j2 _=>ak j j1 j2
   have hx:X=⟨s.toArray⟩:=J0 HX;have hd:(A,s,t)=r[k]'M:=J0 af;rw[<-hd,hx];exact⟨y,rfl,h⟩) (fun x hx=>by
   simp at hx;rcases hx with rfl|rfl|rfl|rfl|rfl|rfl|rfl <;> rfl) rfl (by rw[YE];omega)
  rw[YE,Xz (by omega)]at E1 ah;rw[<-zbb M]at ah;have HE:=J3 E1;have aD:=J3 ah;have aE:=J3 (Y.trans (aw.mono (Y5 _)));obtain⟨pv,cv,ax⟩:=HO.slice;rw[YE,Xz (by omega)]at ax;subst ax;clear E1 ah aB aC aw i1 i2 i3 i4 i5 i6 HO av Y ae af HX M;go_wp2_with (first
   | ((with_reducible refine wpList_load_mid ?_ 52 (.tmp 5) ?_ bx 0 ?_ _ _ R5 Tryz.underlying52 ?_ ?_ ?_);(rfl);(rfl);(rfl);(rfl);(kernel_rfl))
   | (at_builtin;refine J4 rfl (.tmp 32) (.tmp 34) 22 rfl rfl rfl HE ?_;clear HE))
  go_roundw
  case rel=>exact⟨k+1,_,by go_num,rfl,by omega,aD,aE⟩
  case measure=>simp[intOf];omega
section
variable {o:Oper} {a:Act} {w:Zw} {K:Act->Zw->Prop} {Q:Exit->Act->Zw->Prop}
theorem op_fP (i:Nat) {x:Operand} {b off:Nat} (c:[0,1,2,3][i]?=some off) (g:o.op=.fieldAddr 36 x i) (j:a.eval x=.pointer (Zs b 0)) (h:K (a.put o.dst (.pointer (Zs b off))) w):o.wp Tryz.prog a w K Q:=by
 unfold Oper.wp
 match i,c with
 | 0,c|1,c|2,c|3,c=>simp only[execOp,g,j];go_simp;obtain rfl:=Y1 c;exact h
theorem op_loadDs {x:Operand} {b i:Nat} {p:Zo} {n c:Nat} (g:o.op=.load 22 x) (j:a.eval x=.pointer (Zs b i)) (r:w.cell? ⟨b,i,none⟩=some (.slice p n c)) (h:K (a.put o.dst (.slice p n c)) w):o.wp Tryz.prog a w K Q:=by
 unfold Oper.wp;simp only[execOp,g,j];go_simp;exact h
theorem op_buildP {g j:Operand} {q:Zo} {n c:Nat} {y:C10} (r:o.op=.build 36 #[(0,g),(3,j)]) (s:a.eval g=.slice q n c) (t:a.eval j=y.val)
  (h:K (a.put o.dst (.agg #[.slice q n c,Zz,Zz,Zi y.A,.string y.O,.string y.N,.slice y.pq y.nq y.cq,Zi y.T.K,.string y.T.S,.slice y.T.pn y.T.nn y.T.cn,.slice y.T.pe y.T.ne y.T.ce,.slice y.T.pp y.T.np y.T.cp,.slice y.pb y.nb y.cb])) w):o.wp Tryz.prog a w K Q:=by
 unfold Oper.wp;simp only[execOp,r,Xp,Yf,YG,s,t];go_simp;exact h
end
theorem ownd_enter (args:Array Value) (w:Zw):Sem.run Tryz.prog (callFunc 30 args) w=.ok (.enter 30 args) w:=by kernel_rfl
theorem zj7 (args:Array Value) (w:Zw):Sem.run Tryz.prog (callFunc 31 args) w=.ok (.enter 31 args) w:=by kernel_rfl
def F5 (E D d m:Nat) (c:Co E D d m) (W:Zw) (v:Value):Prop:=∃y:C10,v=y.val/\CoIs W E D d m y c
def mkP (f:Nat->Option Value):Option Value:=match f 2,f 5 with
 | some b,some (.agg c)=>some (.agg (#[b,Zz,Zz]++c))
 | _,_=>none
theorem mkP_ok (A B:Zw->Value->Prop):MkOk [(2,A),(5,B)] mkP:=by
 refine⟨fun f i v h=>?_,fun f v e c g=>?_⟩
 ·have j:(2:Nat)≠i:=h (2,A) (by simp);have r:(5:Nat)≠i:=h (5,B) (by simp);rw[mkP,mkP,J7 f v j,J7 f v r]
 ·rw[mkP]at e
  split at e
  ·rename_i s t;simp only[Xj,List.not_mem_nil,or_false]at g;rcases g with rfl|rfl
   ·rw[s];simp
   ·rw[t];simp
  ·cases e
def vP1 (g0:Nat) (A K:Int) (O N S:Zy) (pd pq pn pe pp pb:Zo) (nd cd nq cq nn cn ne ce np cp nb cb:Nat):List (Option Value):=[some (.pointer (Zs g0 0)),some (.slice pd nd cd),none,some (.pointer (Zs g0 3)),some (.agg #[Zi A,.string O,.string N,.slice pq nq cq,Zi K,.string S,.slice pn nn cn,.slice pe ne ce,.slice pp np cp,.slice pb nb cb]),none,none,none,none]
def QCo (E D d m:Nat) (W:Zw) (u:List Value) (x:Co E D d m):Prop:=∃y:C10,u=[Zi y.A,.string y.O,.string y.N,.slice y.pq y.nq y.cq,Zi y.T.K,.string y.T.S,.slice y.T.pn y.T.nn y.T.cn,.slice y.T.pe y.T.ne y.T.ce,.slice y.T.pp y.T.np y.T.cp,.slice y.pb y.nb y.cb]/\CoIs W E D d m y x
theorem info_co:(Tryz.prog.info? 34).map (fun i=>(i.zero,i.size,i.bytes))=some (some (.agg #[Zi 0,.string ⟨#[]⟩,.string ⟨#[]⟩,Zz,Zi 0,.string ⟨#[]⟩,Zz,Zz,Zz,Zz]),10,184):=by kernel_rfl
theorem QCo.row {E D d m B:Nat} {W W':Zw} {v:Value} {s:List (Co E D d m)} (h:OG 34 10 (QCo E D d m) B W v s) (t:∀j,B<=j->j<W.heap.size->W'.heap[j]?=W.heap[j]?):CoRow W' E D d m v s:=by
 obtain⟨p,c,rfl,hp⟩:=h.cells t;refine⟨p,c,rfl,fun j x G=>?_⟩;obtain⟨g,u,rfl,⟨y,rfl,I⟩,r⟩:=hp j x G;exact⟨g,0,y,rfl,⟨r 0 _ rfl,r 1 _ rfl,r 2 _ rfl,r 3 _ rfl,⟨r 4 _ rfl,r 5 _ rfl,r 6 _ rfl,r 7 _ rfl,r 8 _ rfl⟩,r 9 _ rfl⟩,I⟩
theorem C10.val_inj {a b:C10} (h:a.val=b.val):a=b:=by
 obtain⟨A,O,N,pq,nq,cq,⟨K,S,pn,pe,pp,nn,cn,ne,ce,np,cp⟩,pb,nb,cb⟩:=a;obtain⟨c,g,j,r,s,t,⟨u,x,G,I,J,L,M,U,V,Y,Z⟩,aa,ab,ac⟩:=b;simp at h;obtain⟨rfl,rfl,rfl,⟨rfl,rfl,rfl⟩,rfl,rfl,⟨rfl,rfl,rfl⟩,⟨rfl,rfl,rfl⟩,⟨rfl,rfl,rfl⟩,rfl,rfl,rfl⟩:=h
 rfl
theorem cround {W0 W:Zw} {F:Zw->Prop} {n bx i k:Nat} {zs:Array Value} {h:TypeId} {v:Value} {Y:C10} {E D d m:Nat} {cs:List (Co E D d m)} (j:SI W0 F n bx (.cells zs h) W) (s:zs[i]?=some v) (t:OG 34 10 (QCo E D d m) n W v (cs.take k)) (G:k<cs.length) (I:cs.length<=1000000) (hz:zei E D d m cs[k]<=1000000) (J:∀V,ZB W0 V->CoIs V E D d m Y cs[k]) :
  Zg 31 #[Y.val] W.drew fun e w1=>∃y:C10,e=.returned y.val/\ZB W0 w1/\w1.cell? ⟨bx,i,none⟩=some v/\(w1.alloc (.cells #[Zi y.A,.string y.O,.string y.N,.slice y.pq y.nq y.cq,Zi y.T.K,.string y.T.S,.slice y.T.pn y.T.nn y.T.cn,.slice y.T.pe y.T.ne y.T.ce,.slice y.T.pp y.T.np y.T.cp,.slice y.pb y.nb y.cb] 34)).cell? ⟨bx,i,none⟩=some v /\
   ∃(g cap:Nat) (c:Zw),(Builtin.append_ #[23,23] 23 #[v,.slice (Zs w1.heap.size 0) 1 1]).run Tryz.prog (w1.alloc (.cells #[Zi y.A,.string y.O,.string y.N,.slice y.pq y.nq y.cq,Zi y.T.K,.string y.T.S,.slice y.T.pn y.T.nn y.T.cn,.slice y.T.pe y.T.ne y.T.ce,.slice y.T.pp y.T.np y.T.cp,.slice y.pb y.nb y.cb] 34))=.ok (.slice (Zs g 0) (k+1) cap) c /\
    ZB W0 c/\c.cell? ⟨bx,i,none⟩=some v/\c.frozen? ⟨bx,i,none⟩=false /\
    OG 34 10 (QCo E D d m) n (c.setCell ⟨bx,i,none⟩ (.slice (Zs g 0) (k+1) cap)) (.slice (Zs g 0) (k+1) cap) (cs.take (k+1)) /\
    SI W0 F n bx (.cells (zs.setIfInBounds i (.slice (Zs g 0) (k+1) cap)) h) (c.setCell ⟨bx,i,none⟩ (.slice (Zs g 0) (k+1) cap)):=by
 have L:=j.2.2.1;refine(ownc_any E D d m Y cs[k] W.drew (J W.drew (Jb L)) hz).mono ?_;rintro e w1 ⟨⟨y,rfl,M⟩,U⟩;exact⟨y,rfl,OG.round (u:=[Zi y.A,.string y.O,.string y.N,.slice y.pq y.nq y.cq,Zi y.T.K,.string y.T.S,.slice y.T.pn y.T.nn y.T.cn,.slice y.T.pe y.T.ne y.T.ce,.slice y.T.pp y.T.np y.T.cp,.slice y.pb y.nb y.cb]) Tryz.underlying23 info_co rfl (by decide) (by decide) j s t G I (JO U) (fun W' Z=>⟨y,rfl,M W' Z⟩) (fun x r=>by
  simp at r;rcases r with rfl|rfl|rfl|rfl|rfl|rfl|rfl|rfl|rfl|rfl <;> rfl) rfl⟩
theorem ownp_any (E D d m:Nat) (x:P13) (p:Pr E D d m) (w:Zw) (G:PrIs w E D d m x p) (hz:szPr E D d m p<=1000000) :
  Zg 6 #[x.val] w fun e w'=>(∃y:P13,e=.returned y.val/\PrIs w' E D d m y p)/\ZB w w':=by
 obtain⟨pd,nd,cd,pm,nm,cm,pf,nf,cf,⟨A,O,N,pq,nq,cq,⟨K,S,pn,pe,pp,nn,cn,ne,ce,np,cp⟩,pb,nb,cb⟩⟩:=x;obtain⟨v1,v2,v3,v4⟩:=G;dsimp only at v1 v2 v3 v4;unfold szPr at hz;have bg:=v2.len;have bh:=v3.len;have bE:p.2.1.length<=zhr E D d m p.2.1:=zcp _ (fun x=>by unfold zei;omega) _;have bF:p.2.2.1.length<=zhr E D d m p.2.2.1:=zcp _ (fun x=>by unfold zei;omega) _;have aN:ZH (p.2.1.length<=1000000/\∀c∈p.2.1,zei E D d m c<=1000000):=⟨by omega,fun c aY=>by have:=zhc aY;omega⟩
 have aO:ZH (p.2.2.1.length<=1000000/\∀c∈p.2.2.1,zei E D d m c<=1000000):=⟨by omega,fun c aY=>by have:=zhc aY;omega⟩
 have aZ:ZH (∀V,ZB w V->Zg 30 #[.slice pd nd cd] V fun e w'=>(∃v,e=.returned v/\∀al:Zw,(∀j,V.heap.size<=j->j<w'.heap.size->al.heap[j]?=w'.heap[j]?)->F2 E p.1 al v)/\ZB V w'):=fun V h=>ownd_any E pd nd cd p.1 V (v1.below h) (by omega)
 have a1:ZH (∀V,ZB w V->Zg 31 #[.agg #[Zi A,.string O,.string N,.slice pq nq cq,Zi K,.string S,.slice pn nn cn,.slice pe ne ce,.slice pp np cp,.slice pb nb cb]] V fun e w'=>(∃v,e=.returned v/\∀al:Zw,(∀j,V.heap.size<=j->j<w'.heap.size->al.heap[j]?=w'.heap[j]?)->F5 E D d m p.2.2.2 al v)/\ZB V w'):=fun V h=>(ownc_any E D d m ⟨A,O,N,pq,nq,cq,⟨K,S,pn,pe,pp,nn,cn,ne,ce,np,cp⟩,pb,nb,cb⟩ p.2.2.2 V (v4.below h) (by omega)).mono fun e w' ⟨⟨y,he,am⟩,bG⟩=>⟨⟨_,he,fun al bH=>⟨y,rfl,am al bH⟩⟩,bG⟩
 obtain⟨_,_,e,bi⟩:=v2;injection e with a2 bI ae
 subst a2;obtain⟨_,_,e,bj⟩:=v3;injection e with a2 aP aQ
 subst a2;have aR:=J3 bi;have aS:=J3 bj;have aT:=J3 bg;have aU:=J3 bh;have cC:nm<=1000000:=by have:=aN.1;omega
 have cD:nf<=1000000:=by have:=aO.1;omega
 clear v1 v4 bi bj bg bh bI ae aP aQ bE bF hz;go_enter Tryz.func6,Tryz.ntmps6;go_upto_region 1 with fail
 obtain⟨W0,aE⟩:∃W:Zw,W=(w.alloc (Obj.cells #[.slice pd nd cd,.slice pm nm cm,.slice pf nf cf,Zi A,.string O,.string N,.slice pq nq cq,Zi K,.string S,.slice pn nn cn,.slice pe ne ce,.slice pp np cp,.slice pb nb cb] 36)).alloc (Obj.cells #[Zz,Zz,Zz,Zi 0,.string ⟨#[]⟩,.string ⟨#[]⟩,Zz,Zi 0,.string ⟨#[]⟩,Zz,Zz,Zz,Zz] 36):=⟨_,rfl⟩
 obtain⟨g0,a3⟩:∃g:Nat,g=w.heap.size:=⟨_,rfl⟩
 obtain⟨g1,a4⟩:∃g:Nat,g=w.heap.size+1:=⟨_,rfl⟩
 have hz:(w.alloc (Obj.cells #[.slice pd nd cd,.slice pm nm cm,.slice pf nf cf,Zi A,.string O,.string N,.slice pq nq cq,Zi K,.string S,.slice pn nn cn,.slice pe ne ce,.slice pp np cp,.slice pb nb cb] 36)).heap.size=g1:=by rw[a4];simp
 rw[<-aE,<-a4,<-a3];have a5:ZH (ZL13 W0 g0 (.slice pd nd cd) (.slice pm nm cm) (.slice pf nf cf) (Zi A) (.string O) (.string N) (.slice pq nq cq) (Zi K) (.string S) (.slice pn nn cn) (.slice pe ne ce) (.slice pp np cp) (.slice pb nb cb)):=by rw[aE,a3];exact zbj (x:=⟨pd,nd,cd,pm,nm,cm,pf,nf,cf,⟨A,O,N,pq,nq,cq,⟨K,S,pn,pe,pp,nn,cn,ne,ce,np,cp⟩,pb,nb,cb⟩⟩) (Za _ _)
 have a6:ZH (W0.heap[g1]?=some (.cells #[Zz,Zz,Zz,Zi 0,.string ⟨#[]⟩,.string ⟨#[]⟩,Zz,Zi 0,.string ⟨#[]⟩,Zz,Zz,Zz,Zz] 36)/\w.heap.size<=g1/\g1<W0.heap.size):=by
  rw[aE,<-hz];exact⟨Jm _ _,by simp,by simp⟩
 have H0:ZH (ZB w W0):=by rw[aE];exact(Za _ _).alloc (by simp) _
 clear aE a3 a4 hz;have U:ZH (∀V,ZB W0 V->ZB w V):=fun V h=>Zn H0 h
 have aa:ZH (∀V,ZB W0 V->ZL13 V g0 (.slice pd nd cd) (.slice pm nm cm) (.slice pf nf cf) (Zi A) (.string O) (.string N) (.slice pq nq cq) (Zi K) (.string S) (.slice pn nn cn) (.slice pe ne ce) (.slice pp np cp) (.slice pb nb cb)):=fun V h=>zc1 a5 h
 go_cut [3] (fun x wx=>∃(bx:Nat) (y:C10) (t:Zo) (s:Nat) (a7:Zw),x=.pointer (Zs bx 0)/\a7=wx/\ZH (SI W0 (fun W'=>(DeRow W' E (.slice t p.1.length s) p.1/\CoIs W' E D d m y p.2.2.2)) a7.heap.size bx (.cells #[.slice t p.1.length s,Zz,Zz,Zi y.A,.string y.O,.string y.N,.slice y.pq y.nq y.cq,Zi y.T.K,.string y.T.S,.slice y.T.pn y.T.nn y.T.cn,.slice y.T.pe y.T.ne y.T.ce,.slice y.T.pp y.T.np y.T.cp,.slice y.pb y.nb y.cb] 36) a7))
 case first=>
  obtain⟨B,aF,bk,sB,_,aV⟩:=Zx W0
  have a8:∀W,B W->_:=fun W h=>J0 aa W (aF W h)
  have bl:∀W,B W->W.rangeAt g0 3 [Zi A,.string O,.string N,.slice pq nq cq,Zi K,.string S,.slice pn nn cn,.slice pe ne ce,.slice pp np cp,.slice pb nb cb]:=fun W h=>by
   obtain⟨aB,aG,aH,c3,c4,c5,an,ao,ap,aq,ar,au,av⟩:=a8 W h;intro j v G
   match j,G with
   | 0,G=>obtain rfl:=Y1 G;exact c3
   | 1,G=>obtain rfl:=Y1 G;exact c4
   | 2,G=>obtain rfl:=Y1 G;exact c5
   | 3,G=>obtain rfl:=Y1 G;exact an
   | 4,G=>obtain rfl:=Y1 G;exact ao
   | 5,G=>obtain rfl:=Y1 G;exact ap
   | 6,G=>obtain rfl:=Y1 G;exact aq
   | 7,G=>obtain rfl:=Y1 G;exact ar
   | 8,G=>obtain rfl:=Y1 G;exact au
   | 9,G=>obtain rfl:=Y1 G;exact av
   | j+10,G=>simp at G
  have bm:∀W,B W->_:=fun W h=>J0 aZ W (U W (aF W h))
  have bn:∀W,B W->_:=fun W h=>J0 a1 W (U W (aF W h))
  have hm:=mkP_ok (F2 E p.1) (F5 E D d m p.2.2.2);clear aa aZ a1 aR aS aN aO aT aU a5 a6 H0 U;refine zec (n:=50) (z:=8) Zk Zk Zk Zk rfl rfl rfl B (VP (vP1 g0 A K O N S pd pq pn pe pp pb nd cd nq cq nn cn ne ce np cp nb cb)) (XG W0.heap.size 7 6 (.cells #[Zz,Zz,Zz,Zi 0,.string ⟨#[]⟩,.string ⟨#[]⟩,Zz,Zi 0,.string ⟨#[]⟩,Zz,Zz,Zz,Zz] 36) [(2,F2 E p.1),(5,F5 E D d m p.2.2.2)] mkP) (bk _ (Jb Zr)) (XG.init _) ?each ?fin
  case each=>
   refine⟨?_,?_,?_,?_,?_,?_,?_,?_,?_,trivial⟩
   ·exact fun _=>Qq hm sB (by simp) (by decide) (by decide) (fun ac W ah ai dep=>⟨J1 rfl,op_fP 0 rfl rfl (show ac.eval (.tmp 1)=Value.pointer (Zs g0 0)from ah 1 Zk) ⟨_,rfl,Zr,rfl⟩⟩)
   ·exact fun _=>Qq hm sB (by simp) (by decide) (by decide) (fun ac W ah ai dep=>⟨J1 rfl,op_loadDs rfl (dep 0 6 _ Zk Zk rfl) (a8 W ai).1 ⟨_,rfl,Zr,rfl⟩⟩)
   ·exact fun _=>Qr hm (F:=F2 E p.1) (by simp) (by simp) (by decide) (by decide) rfl rfl rfl sB aV ownd_enter (fun ac dep=>(dep 1 7 _ Zk Zk rfl)) bm
   ·exact fun _=>Qq hm sB (by simp) (by decide) (by decide) (fun ac W ah ai dep=>⟨J1 rfl,op_fP 3 rfl rfl (show ac.eval (.tmp 1)=Value.pointer (Zs g0 0)from ah 1 Zk) ⟨_,rfl,Zr,rfl⟩⟩)
   ·exact fun _=>Qq hm sB (by simp) (by decide) (by decide) (fun ac W ah ai dep=>⟨J1 rfl,wp_load_mid 34 _ rfl g0 3 (dep 3 9 _ Zk Zk rfl) _ _ (bl W ai) Tryz.underlying34 rfl Zk ⟨_,rfl,Zr,rfl⟩⟩)
   ·exact fun _=>Qr hm (F:=F5 E D d m p.2.2.2) (by simp) (by simp) (by decide) (by decide) rfl rfl rfl sB aV zj7 (fun ac dep=>(dep 4 10 _ Zk Zk rfl)) bn
   ·exact fun _=>GG.build hm (by simp) (by decide) rfl rfl (fun ac w' f aj dep bo=>by
     have aw:=bo 2 8 Zk Zk;have ae:=bo 5 11 Zk Zk;obtain⟨_,_,_,aC,_⟩:=aj.1 (2,F2 E p.1) (by simp) _ aw;obtain⟨_,_,_,aW,_⟩:=aj.1 (5,F5 E D d m p.2.2.2) (by simp) _ ae;obtain⟨q,s,eq,_⟩:=aC w' fun _ _ _=>rfl
     obtain⟨y,aD,_⟩:=aW w' fun _ _ _=>rfl
     refine⟨_,by rw[mkP,aw,ae,aD,eq];rfl,fun K bJ=>op_buildP rfl eq aD bJ⟩)
   ·exact fun _=>GG.box hm (by simp) (by decide) rfl rfl (fun _=>by kernel_rfl) rfl sB aV
   ·exact fun h=>absurd rfl h
  case fin=>
   intro ac W f hz bK ah ai am bL aj;have aw:=am 2 8 Zk;have ae:=am 5 11 Zk;have aP:=am 6 12 Zk;have aQ:=am 7 3 Zk;obtain⟨_,_,_,aC,_⟩:=aj.1 (2,F2 E p.1) (by simp) _ aw;obtain⟨_,_,_,aW,_⟩:=aj.1 (5,F5 E D d m p.2.2.2) (by simp) _ ae;obtain⟨t,s,eq,_⟩:=aC W fun _ _ _=>rfl
   obtain⟨y,aD,_⟩:=aW W fun _ _ _=>rfl
   have bp:ac.tmps.getD 12 undef=.agg #[.slice t p.1.length s,Zz,Zz,Zi y.A,.string y.O,.string y.N,.slice y.pq y.nq y.cq,Zi y.T.K,.string y.T.S,.slice y.T.pn y.T.nn y.T.cn,.slice y.T.pe y.T.ne y.T.ce,.slice y.T.pp y.T.np y.T.cp,.slice y.pb y.nb y.cb]:=by
    have h:=aj.2.2 _ aP;rw[mkP,aw,ae,aD,eq]at h;exact(Y1 h).symm
   obtain⟨bx,bq,br,ak⟩:=XG.done (cs:=[.slice t p.1.length s,Zz,Zz,Zi y.A,.string y.O,.string y.N,.slice y.pq y.nq y.cq,Zi y.T.K,.string y.T.S,.slice y.T.pn y.T.nn y.T.cn,.slice y.T.pe y.T.ne y.T.ce,.slice y.T.pp y.T.np y.T.cp,.slice y.pb y.nb y.cb]) rfl rfl aj (aF W ai) aQ Zk;refine⟨J1 rfl,wp_store_mid 36 (.tmp 3) (.tmp 12) rfl bx 0 _ bq bp (zf6 br _ rfl) Zk (all_oneCell_toArray (J9 rfl (J9 rfl (J9 rfl (J9 rfl (J9 rfl (J9 rfl (J9 rfl (J9 rfl (J9 rfl (J9 rfl (J9 rfl (J9 rfl (J9 rfl zhm)))))))))))))) ⟨rfl,?_⟩⟩;have bt:ZH (SI W0 (fun W'=>(DeRow W' E (.slice t p.1.length s) p.1/\CoIs W' E D d m y p.2.2.2)) (W.setCells bx 0 [.slice t p.1.length s,Zz,Zz,Zi y.A,.string y.O,.string y.N,.slice y.pq y.nq y.cq,Zi y.T.K,.string y.T.S,.slice y.T.pn y.T.nn y.T.cn,.slice y.T.pe y.T.ne y.T.ce,.slice y.T.pp y.T.np y.T.cp,.slice y.pb y.nb y.cb]).heap.size bx (.cells #[.slice t p.1.length s,Zz,Zz,Zi y.A,.string y.O,.string y.N,.slice y.pq y.nq y.cq,Zi y.T.K,.string y.T.S,.slice y.T.pn y.T.nn y.T.cn,.slice y.T.pe y.T.ne y.T.ce,.slice y.T.pp y.T.np y.T.cp,.slice y.pb y.nb y.cb] 36) (W.setCells bx 0 [.slice t p.1.length s,Zz,Zz,Zi y.A,.string y.O,.string y.N,.slice y.pq y.nq y.cq,Zi y.T.K,.string y.T.S,.slice y.T.pn y.T.nn y.T.cn,.slice y.T.pe y.T.ne y.T.ce,.slice y.T.pp y.T.np y.T.cp,.slice y.pb y.nb y.cb])):=by
    obtain⟨s1,s2,a9,aX⟩:=ak;refine⟨s1,s2,a9,fun W' aI=>?_⟩;have h:=aX W' aI;obtain⟨cE,cF,cG,bu⟩:=h (2,F2 E p.1) (by simp) _ (by rw[aw]);obtain⟨cH,bv,bM⟩:=h (5,F5 E D d m p.2.2.2) (by simp) _ (by rw[ae]);rw[aD]at bv;rw[eq]at bu;obtain rfl:=C10.val_inj bv;exact⟨bu,bM⟩
   generalize W.setCells bx 0 [.slice t p.1.length s,Zz,Zz,Zi y.A,.string y.O,.string y.N,.slice y.pq y.nq y.cq,Zi y.T.K,.string y.T.S,.slice y.T.pn y.T.nn y.T.cn,.slice y.T.pe y.T.ne y.T.ce,.slice y.T.pp y.T.np y.T.cp,.slice y.pb y.nb y.cb]=Wn at bt ⊢;rw[JZ hz rfl bK ah];clear am bL aj ah ak br sB aV aF bk a8 bl bm bn ai aw ae aP aQ aC aW aD eq bp hm;simp only[List.foldl,Option.getD];rw[bq];go_wp2_with fail;go_meet
   case rel=>exact⟨bx,y,t,s,_,rfl,rfl,bt⟩
 case rest=>
 obtain⟨bx,y,t,s,bw,rfl,rfl,ad⟩:=hcut;clear aZ a1 a5;go_upto_block 0 with fail
 go_cut [] (fun wx=>∃(I:Zo) (J:Nat) (ax:Zw),ax=wx/\ZH (SI W0 (fun W'=>((DeRow W' E (.slice t p.1.length s) p.1/\CoIs W' E D d m y p.2.2.2)/\CoRow W' E D d m (.slice I p.2.1.length J) p.2.1)) ax.heap.size bx (.cells #[.slice t p.1.length s,.slice I p.2.1.length J,Zz,Zi y.A,.string y.O,.string y.N,.slice y.pq y.nq y.cq,Zi y.T.K,.string y.T.S,.slice y.T.pn y.T.nn y.T.cn,.slice y.T.pe y.T.ne y.T.ce,.slice y.T.pp y.T.np y.T.cp,.slice y.pb y.nb y.cb] 36) ax))
 case first=>
  go_wp2_with fail
  go_loopg [4] nm (fun gk i aJ=>∃(k:Nat) (q:Zo) (af:Nat),i=Zi k/\k+gk=nm/\ZH (OG 34 10 (QCo E D d m) bw.heap.size aJ (.slice q k af) (p.2.1.take k))/\ZH (SI W0 (fun W'=>(DeRow W' E (.slice t p.1.length s) p.1/\CoIs W' E D d m y p.2.2.2)) bw.heap.size bx (.cells #[.slice t p.1.length s,.slice q k af,Zz,Zi y.A,.string y.O,.string y.N,.slice y.pq y.nq y.cq,Zi y.T.K,.string y.T.S,.slice y.T.pn y.T.nn y.T.cn,.slice y.T.pe y.T.ne y.T.ce,.slice y.T.pp y.T.np y.T.cp,.slice y.pb y.nb y.cb] 36) aJ))
  case atStart=>exact⟨0,none,0,rfl,by omega,OG.nil _ _,ad⟩
  case round=>
   obtain⟨k,q,af,rfl,bN,ag,ab⟩:=hrel;obtain⟨i1,⟨i2,i3,i4⟩,i5,_⟩:=J0 ab;have ay:=J3 i5;obtain⟨aB,aG,aH,c3,c4,c5,an,ao,ap,aq,ar,au,av⟩:=aa _ i5;have a':=Y0 i1 1;simp only[List.getElem?_toArray,YN,Xa]at a';clear i1 i2 i3 i4 i5 ad;by_cases bO:k<nm
   ·have ba:(k:Int)<(nm:Int):=by omega
    have aK:k<p.2.1.length:=by have:=J0 aT;omega
    obtain⟨g,o,Y,rfl,a0,aL⟩:=aR k p.2.1[k] (by simp[aK]);have bb:=J3 (cround (i:=1) ab rfl ag aK aN.1 (aN.2 _ (by simp)) (fun V h=>aL.below (U V h)));obtain⟨bP,bQ,bR,bS,⟨bT,bU,bV,bW,bX⟩,bY⟩:=a0.below (U _ ay);have bZ:ZH (∀V,ZB W0 V->V.cell? ⟨g0,1,none⟩=some (.slice (Zs g o) nm cm)):=fun V h=>(aa V h).2.1
    have b1:ZH (∀V,ZB W0 V->C10At V g (o+k*10) Y):=fun V h=>a0.below (U V h)
    clear a0 aL aR ag ab ay U aa aT aB aH c3 c4 c5 an ao ap aq ar au av;go_upto_region 5 with fail
    go_region_law (first
     | (refine zbd (u:=Y.val) rfl 31 (.tmp 26) 34 rfl (by simp[Act.eval]) zj7 ?_;refine bb.mono ?_;rintro e w1 ⟨⟨b2,b3,b4,b5,b6,b7,⟨b8,b9,b',ca,cc,m1,cg,m2,ch,m3,ci⟩,cj,ck,cl⟩,rfl,co,t1,t2,cr,cap,cu,bc,cv,t3,t4,be,ak⟩;refine⟨_,rfl,?_⟩)
     | refine zac rfl (.tmp 21) (.tmp 28) 23 rfl (by simp[Act.eval]) (by simp[Act.eval]) bc ?_)
    all_goals
     go_wp2_with fail;go_roundg (nm-(k+1))
     case measure=>omega
     case rel=>exact⟨k+1,_,_,by go_num,by omega,be,(by simp only[Xf,Xu,List.set_cons_succ]at ak;exact ak)⟩
   ·obtain rfl:k=nm:=by omega
    have aM:=J3 (ab.more (fun W' aI=>QCo.row ag aI));have az:=J0 aT;rw[show p.2.1.take k=p.2.1 by rw[az,Yr],az]at aM;have ba:¬(k:Int)<(k:Int):=by omega
    clear ab ag ay U aa az;go_wp2_with fail;go_meet
    case rel=>exact⟨q,af,_,rfl,aM⟩
 case rest=>
 clear ad aR;obtain⟨I,J,bz,rfl,ad⟩:=hcut;go_upto_block 2 with fail
 go_cut [] (fun wx=>∃(L:Zo) (M:Nat) (ax:Zw),ax=wx/\ZH (SI W0 (fun W'=>(((DeRow W' E (.slice t p.1.length s) p.1/\CoIs W' E D d m y p.2.2.2)/\CoRow W' E D d m (.slice I p.2.1.length J) p.2.1)/\CoRow W' E D d m (.slice L p.2.2.1.length M) p.2.2.1)) ax.heap.size bx (.cells #[.slice t p.1.length s,.slice I p.2.1.length J,.slice L p.2.2.1.length M,Zi y.A,.string y.O,.string y.N,.slice y.pq y.nq y.cq,Zi y.T.K,.string y.T.S,.slice y.T.pn y.T.nn y.T.cn,.slice y.T.pe y.T.ne y.T.ce,.slice y.T.pp y.T.np y.T.cp,.slice y.pb y.nb y.cb] 36) ax))
 case first=>
  go_wp2_with fail
  go_loopg [5] nf (fun gk i aJ=>∃(k:Nat) (q:Zo) (af:Nat),i=Zi k/\k+gk=nf/\ZH (OG 34 10 (QCo E D d m) bz.heap.size aJ (.slice q k af) (p.2.2.1.take k))/\ZH (SI W0 (fun W'=>((DeRow W' E (.slice t p.1.length s) p.1/\CoIs W' E D d m y p.2.2.2)/\CoRow W' E D d m (.slice I p.2.1.length J) p.2.1)) bz.heap.size bx (.cells #[.slice t p.1.length s,.slice I p.2.1.length J,.slice q k af,Zi y.A,.string y.O,.string y.N,.slice y.pq y.nq y.cq,Zi y.T.K,.string y.T.S,.slice y.T.pn y.T.nn y.T.cn,.slice y.T.pe y.T.ne y.T.ce,.slice y.T.pp y.T.np y.T.cp,.slice y.pb y.nb y.cb] 36) aJ))
  case atStart=>exact⟨0,none,0,rfl,by omega,OG.nil _ _,ad⟩
  case round=>
   obtain⟨k,q,af,rfl,bN,ag,ab⟩:=hrel;obtain⟨i1,⟨i2,i3,i4⟩,i5,_⟩:=J0 ab;have ay:=J3 i5;obtain⟨aB,aG,aH,c3,c4,c5,an,ao,ap,aq,ar,au,av⟩:=aa _ i5;have a':=Y0 i1 2;simp only[List.getElem?_toArray,YN,Xa]at a';clear i1 i2 i3 i4 i5 ad;by_cases bO:k<nf
   ·have ba:(k:Int)<(nf:Int):=by omega
    have aK:k<p.2.2.1.length:=by have:=J0 aU;omega
    obtain⟨g,o,Y,rfl,a0,aL⟩:=aS k p.2.2.1[k] (by simp[aK]);have bb:=J3 (cround (i:=2) ab rfl ag aK aO.1 (aO.2 _ (by simp)) (fun V h=>aL.below (U V h)));obtain⟨bP,bQ,bR,bS,⟨bT,bU,bV,bW,bX⟩,bY⟩:=a0.below (U _ ay);have bZ:ZH (∀V,ZB W0 V->V.cell? ⟨g0,2,none⟩=some (.slice (Zs g o) nf cf)):=fun V h=>(aa V h).2.2.1
    have b1:ZH (∀V,ZB W0 V->C10At V g (o+k*10) Y):=fun V h=>a0.below (U V h)
    clear a0 aL aS ag ab ay U aa aU aB aG c3 c4 c5 an ao ap aq ar au av;go_upto_region 9 with fail
    go_region_law (first
     | (refine zbd (u:=Y.val) rfl 31 (.tmp 44) 34 rfl (by simp[Act.eval]) zj7 ?_;refine bb.mono ?_;rintro e w1 ⟨⟨b2,b3,b4,b5,b6,b7,⟨b8,b9,b',ca,cc,m1,cg,m2,ch,m3,ci⟩,cj,ck,cl⟩,rfl,co,t1,t2,cr,cap,cu,bc,cv,t3,t4,be,ak⟩;refine⟨_,rfl,?_⟩)
     | refine zac rfl (.tmp 39) (.tmp 46) 23 rfl (by simp[Act.eval]) (by simp[Act.eval]) bc ?_)
    all_goals
     go_wp2_with fail;go_roundg (nf-(k+1))
     case measure=>omega
     case rel=>exact⟨k+1,_,_,by go_num,by omega,be,(by simp only[Xf,Xu,List.set_cons_succ]at ak;exact ak)⟩
   ·obtain rfl:k=nf:=by omega
    have aM:=J3 (ab.more (fun W' aI=>QCo.row ag aI));have az:=J0 aU;rw[show p.2.2.1.take k=p.2.2.1 by rw[az,Yr],az]at aM;have ba:¬(k:Int)<(k:Int):=by omega
    clear ab ag ay U aa az;go_wp2_with fail;go_meet
    case rel=>exact⟨q,af,_,rfl,aM⟩
 case rest=>
 clear ad aS;obtain⟨L,M,aA,rfl,ad⟩:=hcut;obtain⟨i1,⟨i2,i3,i4⟩,i5,i6⟩:=J0 ad;obtain⟨bA,z2,z3⟩:=J0 a6;have bf:aA.heap[g1]?=some (.cells #[Zz,Zz,Zz,Zi 0,.string ⟨#[]⟩,.string ⟨#[]⟩,Zz,Zi 0,.string ⟨#[]⟩,Zz,Zz,Zz,Zz] 36):=(i5.block _ z3).trans bA;have cw:aA.rangeAt bx 0 [.slice t p.1.length s,.slice I p.2.1.length J,.slice L p.2.2.1.length M,Zi y.A,.string y.O,.string y.N,.slice y.pq y.nq y.cq,Zi y.T.K,.string y.T.S,.slice y.T.pn y.T.nn y.T.cn,.slice y.T.pe y.T.ne y.T.ce,.slice y.T.pp y.T.np y.T.cp,.slice y.pb y.nb y.cb]:=fun j v G=>by rw[Y0 i1,X3];simpa using G
 have cx:aA.there g1 0 (#[.slice t p.1.length s,.slice I p.2.1.length J,.slice L p.2.2.1.length M,Zi y.A,.string y.O,.string y.N,.slice y.pq y.nq y.cq,Zi y.T.K,.string y.T.S,.slice y.T.pn y.T.nn y.T.cn,.slice y.T.pe y.T.ne y.T.ce,.slice y.T.pp y.T.np y.T.cp,.slice y.pb y.nb y.cb]:Array Value).size:=zf6 bf _ rfl;obtain⟨s1,s2,a9,aX⟩:=zg8 (cs:=[.slice t p.1.length s,.slice I p.2.1.length J,.slice L p.2.2.1.length M,Zi y.A,.string y.O,.string y.N,.slice y.pq y.nq y.cq,Zi y.T.K,.string y.T.S,.slice y.T.pn y.T.nn y.T.cn,.slice y.T.pe y.T.ne y.T.ce,.slice y.T.pp y.T.np y.T.cp,.slice y.pb y.nb y.cb]) Zk bf;have bB:=J3 s1;have bC:ZH (ZB w (aA.setCells g1 0 [.slice t p.1.length s,.slice I p.2.1.length J,.slice L p.2.2.1.length M,Zi y.A,.string y.O,.string y.N,.slice y.pq y.nq y.cq,Zi y.T.K,.string y.T.S,.slice y.T.pn y.T.nn y.T.cn,.slice y.T.pe y.T.ne y.T.ce,.slice y.T.pp y.T.np y.T.cp,.slice y.pb y.nb y.cb])):=aX w z2 (U _ i5);have bD:ZH (PrIs (aA.setCells g1 0 [.slice t p.1.length s,.slice I p.2.1.length J,.slice L p.2.2.1.length M,Zi y.A,.string y.O,.string y.N,.slice y.pq y.nq y.cq,Zi y.T.K,.string y.T.S,.slice y.T.pn y.T.nn y.T.cn,.slice y.T.pe y.T.ne y.T.ce,.slice y.T.pp y.T.np y.T.cp,.slice y.pb y.nb y.cb]) E D d m ⟨t,p.1.length,s,I,p.2.1.length,J,L,p.2.2.1.length,M,y⟩ p):=by
  obtain⟨⟨⟨cy,aC⟩,cz⟩,cA⟩:=i6 (aA.setCells g1 0 [.slice t p.1.length s,.slice I p.2.1.length J,.slice L p.2.2.1.length M,Zi y.A,.string y.O,.string y.N,.slice y.pq y.nq y.cq,Zi y.T.K,.string y.T.S,.slice y.T.pn y.T.nn y.T.cn,.slice y.T.pe y.T.ne y.T.ce,.slice y.T.pp y.T.np y.T.cp,.slice y.pb y.nb y.cb]) fun j cI cJ cK=>s2 j (by omega)
  exact⟨cy,cz,cA,aC⟩
 clear i1 i2 i3 i4 i5 i6 bA z2 z3 s1 s2 a9 aX bf ad a6 U aa H0;go_wp2_with (first
  | ((with_reducible refine wpList_load_mid ?_ 36 (.tmp 3) ?_ bx 0 ?_ _ _ cw Tryz.underlying36 ?_ ?_ ?_);(rfl);(rfl);(rfl);(rfl);(kernel_rfl))
  | ((with_reducible refine wpList_store_mid ?_ 36 (.tmp 2) (.tmp 49) ?_ g1 0 #[.slice t p.1.length s,.slice I p.2.1.length J,.slice L p.2.2.1.length M,Zi y.A,.string y.O,.string y.N,.slice y.pq y.nq y.cq,Zi y.T.K,.string y.T.S,.slice y.T.pn y.T.nn y.T.cn,.slice y.T.pe y.T.ne y.T.ce,.slice y.T.pp y.T.np y.T.cp,.slice y.pb y.nb y.cb] ?_ ?_ cx ?_ ?_ ?_);(rfl);(rfl);(rfl);(rfl);(kernel_rfl);(exact all_oneCell_toArray (J9 rfl (J9 rfl (J9 rfl (J9 rfl (J9 rfl (J9 rfl (J9 rfl (J9 rfl (J9 rfl (J9 rfl (J9 rfl (J9 rfl (J9 rfl zhm))))))))))))));(rw[show(#[.slice t p.1.length s,.slice I p.2.1.length J,.slice L p.2.2.1.length M,Zi y.A,.string y.O,.string y.N,.slice y.pq y.nq y.cq,Zi y.T.K,.string y.T.S,.slice y.T.pn y.T.nn y.T.cn,.slice y.T.pe y.T.ne y.T.ce,.slice y.T.pp y.T.np y.T.cp,.slice y.pb y.nb y.cb]:Array Value).toList=[.slice t p.1.length s,.slice I p.2.1.length J,.slice L p.2.2.1.length M,Zi y.A,.string y.O,.string y.N,.slice y.pq y.nq y.cq,Zi y.T.K,.string y.T.S,.slice y.T.pn y.T.nn y.T.cn,.slice y.T.pe y.T.ne y.T.ce,.slice y.T.pp y.T.np y.T.cp,.slice y.pb y.nb y.cb]from rfl]);(generalize aA.setCells g1 0 [.slice t p.1.length s,.slice I p.2.1.length J,.slice L p.2.2.1.length M,Zi y.A,.string y.O,.string y.N,.slice y.pq y.nq y.cq,Zi y.T.K,.string y.T.S,.slice y.T.pn y.T.nn y.T.cn,.slice y.T.pe y.T.ne y.T.ce,.slice y.T.pp y.T.np y.T.cp,.slice y.pb y.nb y.cb]=Wf at bB bC bD ⊢)))
 have Z:=J0 bB;have cB:ZL13 Wf g1 (.slice t p.1.length s) (.slice I p.2.1.length J) (.slice L p.2.2.1.length M) (Zi y.A) (.string y.O) (.string y.N) (.slice y.pq y.nq y.cq) (Zi y.T.K) (.string y.T.S) (.slice y.T.pn y.T.nn y.T.cn) (.slice y.T.pe y.T.ne y.T.ce) (.slice y.T.pp y.T.np y.T.cp) (.slice y.pb y.nb y.cb):=⟨by rw[Y0 Z];rfl,by rw[Y0 Z];rfl,by rw[Y0 Z];rfl,by rw[Y0 Z];rfl,by rw[Y0 Z];rfl,by rw[Y0 Z];rfl,by rw[Y0 Z];rfl,by rw[Y0 Z];rfl,by rw[Y0 Z];rfl,by rw[Y0 Z];rfl,by rw[Y0 Z];rfl,by rw[Y0 Z];rfl,by rw[Y0 Z];rfl⟩
 obtain⟨aB,aG,aH,c3,c4,c5,an,ao,ap,aq,ar,au,av⟩:=cB;exact Yi (v:=P13.val ⟨t,p.1.length,s,I,p.2.1.length,J,L,p.2.2.1.length,M,y⟩) (by simp[results,Tryz.results6,go_sem,aB,aG,aH,c3,c4,c5,an,ao,ap,aq,ar,au,av]) rfl ⟨⟨⟨t,p.1.length,s,I,p.2.1.length,J,L,p.2.2.1.length,M,y⟩,rfl,bD⟩,bC⟩
end Go.Proofs.YtdcbglnhhbmpgaaGreatDoor
