import Derived.Test.YtdcbglnhhbmpgaaGreatDoorQChainG
import Derived.Test.YtdcbglnhhbmpgaaGreatDoorQRefD
set_option maxHeartbeats 4000000
set_option maxRecDepth 100000
namespace Go.Proofs.YtdcbglnhhbmpgaaGreatDoor
open Go Go.RowKit Lx
def tyS (d:Nat) (t:Ty d):List Bs:=(Jf d false t).map J5
def sigS (d:Nat) (c:List (Ty d)) (k:Nat):List Bs:=[40]::((List.range k).flatMap fun i=>(if 0<i then[[44]]else[])++(c[i]?.map (tyS d)).getD [])
theorem sigS_succ {d:Nat} {c:List (Ty d)} {k:Nat} (h:k<c.length):sigS d c (k+1)=sigS d c k++(if 0<k then[[44]]else[])++tyS d c[k]:=by
 unfold sigS;rw[YA,YO];simp[h]
def zjh (d:Nat):Prop:=∀(t:Ty d) (v:Value) (w:Zw),TyValD w d v t->(∃room,JP d room t=true)->szD d t<=60000 ->
 Zg 34 #[v] w fun e w'=>(∃u,e=.returned u/\w'.ownsRow w.heap.size 9 1 u (tyS d t).length (za8 (tyS d t))/\0<(tyS d t).length/\(tyS d t).length<=5*szD d t)/\ZB w w'
theorem zc4 (w:Zw) (s:Bs):(w.alloc (.cells #[.string ⟨s.toArray⟩] 9)).ownsRow w.heap.size 9 1 (.slice (Zs w.heap.size 0) 1 1) [s].length (za8 [s]):=
 ⟨rfl,.inr ⟨w.heap.size,1,_,rfl,Y5 _,Jm w _,Y5 _,by decide,rfl,rfl⟩⟩
theorem za6 {W:Zw} {base:Nat} {u:Value} {L:List Bs} (h:W.ownsRow base 9 1 u L.length (za8 L)) (c:0<L.length):∃g cap,u=.slice (Zs g 0) L.length cap:=by
 rcases h.2 with⟨_,j⟩|⟨g,cap,cur,rfl,_⟩
 ·omega
 ·exact⟨g,cap,rfl⟩
theorem zan (o:Option Nat):o=none∨o≠none:=by cases o <;> simp
theorem Left.grown {base:Nat} {v u:Value} {ns:List Bs} {W W':Zw} (h:Left base v W u ns W'):W.grownBy W' v.ownBlock:=⟨h.2.1.os,h.2.1.tape,h.2.1.output,h.2.1.size,h.2.2.1⟩
theorem op_sub1 {o:Oper} {a:Act} {w:Zw} {K:Act->Zw->Prop} {Q:Exit->Act->Zw->Prop} {x:Operand} {n:Nat} (c:o.op=.binOp .sub 3 x (.const (Zi 1)) 3) (g:a.eval x=Zi (n:Int)) (r:0<n) (s:n<=1000000) (h:K (a.put o.dst (Zi ((n-1:Nat):Int))) w):o.wp Tryz.prog a w K Q:=by
 have j:a.eval (.const (Zi 1))=Zi 1:=rfl;unfold Oper.wp;simp only[execOp,c,g,j];simp[go_sem];rw[show IntKind.i64.wrap ((n:Int)-1)=((n-1:Nat):Int) by rw[YJ];omega];exact h
theorem zd0 (args:Array Value) (w:Zw):Sem.run Tryz.prog (callFunc 34 args) w=.ok (.enter 34 args) w:=by kernel_rfl
theorem zmo {o:Oper} {a:Act} {w:Zw} {K:Act->Zw->Prop} {Q:Exit->Act->Zw->Prop} {x:Operand} {b i:Nat} {c g j c3 c4:Value} (r:o.op=.load 31 x) (s:a.eval x=.pointer (Zs b i)) (t:w.cell? ⟨b,i,none⟩=some c) (u:w.cell? ⟨b,i+1,none⟩=some g) (G:w.cell? ⟨b,i+2,none⟩=some j) (I:w.cell? ⟨b,i+3,none⟩=some c3) (J:w.cell? ⟨b,i+4,none⟩=some c4) (h:K (a.put o.dst (.agg #[c,g,j,c3,c4])) w):o.wp Tryz.prog a w K Q:=by
 unfold Oper.wp;simp only[execOp,r,s];go_simp;exact h
def VS (g c h j:Value) (n base:Nat) (L:List Bs):Nat->Value->Zw->Prop
 | 0,v,_=>v=g
 | 3,v,_=>v=c
 | 4,v,_=>v=c
 | 5,v,_=>v=Zi (n:Int)
 | 6,v,_=>v=Zi ((n-1:Nat):Int)
 | 7,v,_=>v=h
 | 8,v,_=>v=j
 | 10,v,W=>W.ownsRow base 9 1 v L.length (za8 L)
 | 11,v,W=>W.ownsRow base 9 1 v L.length (za8 L)
 | _,_,_=>True
theorem VS.on {c g j r:Value} {n base:Nat} {L:List Bs} (i:Nat) {v:Value} {W W':Zw} {row:Option Nat} (h:VS c g j r n base L i v W) (s:W.grownBy W' row) (t:i=10∨i=11->v.ownBlock=none∨v.ownBlock≠row):VS c g j r n base L i v W':=by
 match i,h with
 | 0,h=>exact h
 | 1,_=>trivial
 | 2,_=>trivial
 | 3,h=>exact h
 | 4,h=>exact h
 | 5,h=>exact h
 | 6,h=>exact h
 | 7,h=>exact h
 | 8,h=>exact h
 | 9,_=>trivial
 | 10,h=>exact World.ownsRow.kept h s (t (.inl rfl))
 | 11,h=>exact World.ownsRow.kept h s (t (.inr rfl))
 | _+12,_=>trivial
def XS (base:Nat) (c:Value) (L0 h LT:List Bs) (f:Nat->Option Value) (W:Zw):Prop:=
 (f 2=none->W.ownsRow base 9 1 c L0.length (za8 L0)/\(∀v,f 1=some v->∃g1,v=.slice (Zs g1 0) 1 1/\W.heap[g1]?=some (.cells #[.string ⟨#[41]⟩] 9)/\c.ownBlock≠some g1)/\∀u,f 9=some u->∀g,u.ownBlock=some g->c.ownBlock≠some g) /\
 (f 10=none->(∀v,f 2=some v->W.ownsRow base 9 1 v h.length (za8 h)/\∀u,f 9=some u->∀g,u.ownBlock=some g->v.ownBlock≠some g)/\∀u,f 9=some u->W.ownsRow base 9 1 u LT.length (za8 LT)/\0<LT.length/\LT.length<=300000)
theorem XS.on {base:Nat} {s:Value} {L0 t LT:List Bs} {f:Nat->Option Value} {i:Nat} {v:Value} {W W':Zw} (G:1≠i) (I:2≠i) (J:9≠i) (L:10≠i) (h:XS base s L0 t LT f W) (u:ZB W W'):XS base s L0 t LT (JT f i v) W':=by
 unfold XS at h ⊢;rw[J7 _ _ G,J7 _ _ I,J7 _ _ J,J7 _ _ L];have r:=Je u;refine⟨fun e=>?_,fun e=>?_⟩
 ·obtain⟨g,j,M⟩:=h.1 e;refine⟨g.kept r (zan _),fun x c=>?_,M⟩;obtain⟨g1,U,V,Y⟩:=j x c;exact⟨g1,U,kp u V,Y⟩
 ·obtain⟨g,j⟩:=h.2 e;exact⟨fun x c=>⟨(g x c).1.kept r (zan _),(g x c).2⟩,fun x c=>⟨(j x c).1.kept r (zan _),(j x c).2⟩⟩
theorem sig_walk (d:Nat) (IH:zjh d) (p:Zo) (c:Nat) (r:List (Ty d)) (w:Zw) (hv:TyRow w d (.slice p r.length c) r) (hr:∀x∈r,∃room,JP d room x=true) (az:0<r.length) (hz:szL d r<=60000) :
  Zg 59 #[.slice p r.length c] w fun e w'=>(∃u,e=.returned u/\w'.ownsRow w.heap.size 9 1 u (sigS d r (r.length-1)++[[41]]++tyS d (r[r.length-1]'(by omega))).length (za8 (sigS d r (r.length-1)++[[41]]++tyS d (r[r.length-1]'(by omega)))))/\ZB w w':=by
 obtain⟨L,hL⟩:=Ze (sigS d r (r.length-1)++[[41]]++tyS d (r[r.length-1]'(by omega)))
 rw[<-hL];have HL:=J3 hL;have HV:=J3 hv;have HR:=J3 hr;have HI:=J3 IH;have aM:r.length<=60000:=Yh (Yh (zbh _ r) (zc3 _ r)) (by omega);clear hL hv hr IH;go_enter Tryz.func59,Tryz.ntmps59;go_wp2
 go_loopw [3,4] (fun o i wr=>∃(k:Nat) (vo:Value),i=Zi k/\o=vo/\k+1<=r.length/\ZH (wr.ownsRow w.heap.size 9 1 vo (sigS d r k).length (za8 (sigS d r k))/\ZB w wr/\(sigS d r k).length<=1+k+5*szL d (r.take k))) (fun _ i _=>r.length-(intOf i).toNat)
 case atStart=>exact⟨0,_,rfl,rfl,by omega,zc4 w [40],Za _ _,by simp[sigS,szL]⟩
 case round=>
  obtain⟨k,vo,rfl,rfl,hk,HO⟩:=hrel;obtain⟨ho,t,hlen⟩:=J0 HO;obtain⟨pv,cv,rfl,_⟩:=Jh ho;by_cases aN:k+1<r.length
  ·have aA:(k:Int)+1<(r.length:Int):=by omega
   have aO:(k:Int)<(r.length:Int):=by omega
   obtain⟨u,⟨g,o,K',S',qn,qe,q3,n1,c1,n2,c2,n3,c3,rfl,rfl,a0,a1,a2,a3,a4⟩,hu⟩:=HV.at k (by omega);have au:=zgn (show k<r.length by omega);have av:szL d (r.take (k+1))<=szL d r:=zl1 _ _;have ae:=J3 (sigS_succ (show k<r.length by omega));by_cases aj:0<k
   ·have aB:0<(k:Int):=by omega
    obtain⟨g1,aP,W4,E,al⟩:=Left.append (s:=[44]) ho (by have:=t.size;omega) (by omega);have HE:=J3 E;have am:=J3 al.1;have M:=J3 (t.trans al.2.1);have aC:(sigS d r k++[[44]]).length=(sigS d r k).length+1:=by simp
    have c0:=(M.cell (p:=⟨g,_,none⟩) (J2 a0)).trans a0;have c1:=(M.cell (p:=⟨g,_,none⟩) (J2 a1)).trans a1;have c2:=(M.cell (p:=⟨g,_,none⟩) (J2 a2)).trans a2;have c3:=(M.cell (p:=⟨g,_,none⟩) (J2 a3)).trans a3;have c4:=(M.cell (p:=⟨g,_,none⟩) (J2 a4)).trans a4;have CL:=J3 (J0 HI r[k] _ _ (TyValD.below M hu) (HR _ (by simp)) (by omega));rw[Ye aj]at ae;clear E al a0 a1 a2 a3 a4 hu ho aj HO;go_wp2_with (first
     | (at_builtin;refine J4 rfl (.tmp 15) (.tmp 16) 27 rfl rfl rfl HE ?_;clear HE)
     | (go_at_call 34;refine CL.mono ?_;clear CL;rintro x w1 ⟨⟨u1,rfl,ag,ab,aD⟩,ad⟩;obtain⟨g2,aw,rfl⟩:=za6 ag ab;obtain⟨g3,aE,W5,E2,ah⟩:=Left.appends (am.kept (Je ad) (zan _)) (by have:=M.size;have:=ad.size;omega) (by omega) ab (Qb ag);have ai:=J3 E2)
     | (at_builtin;refine J4 rfl (.tmp 18) (.tmp 23) 27 rfl rfl rfl ai ?_;clear ai))
    go_roundw
    case rel=>exact⟨k+1,_,by go_num,rfl,by omega,⟨(by rw[J0 ae];simpa using ah.1),(Zn M ad).trans ah.2.1,(by rw[J0 ae,Y9,aC];omega)⟩⟩
    case measure=>simp[intOf];omega
   ·have aB:(k:Int)<=0:=by omega
    have am:=J3 ho;have M:=J3 t;have c0:=(M.cell (p:=⟨g,_,none⟩) (J2 a0)).trans a0;have c1:=(M.cell (p:=⟨g,_,none⟩) (J2 a1)).trans a1;have c2:=(M.cell (p:=⟨g,_,none⟩) (J2 a2)).trans a2;have c3:=(M.cell (p:=⟨g,_,none⟩) (J2 a3)).trans a3;have c4:=(M.cell (p:=⟨g,_,none⟩) (J2 a4)).trans a4;have CL:=J3 (J0 HI r[k] _ _ (TyValD.below M hu) (HR _ (by simp)) (by omega));rw[Y7 aj,X7]at ae;clear a0 a1 a2 a3 a4 hu ho aj HO;go_wp2_with (first
     | (go_at_call 34;refine CL.mono ?_;clear CL;rintro x w1 ⟨⟨u1,rfl,ag,ab,aD⟩,ad⟩;obtain⟨g2,aw,rfl⟩:=za6 ag ab;obtain⟨g3,aE,W5,E2,ah⟩:=Left.appends (am.kept (Je ad) (zan _)) (by have:=M.size;have:=ad.size;omega) (by omega) ab (Qb ag);have ai:=J3 E2)
     | (at_builtin;refine J4 rfl (.tmp 18) (.tmp 23) 27 rfl rfl rfl ai ?_;clear ai))
    go_roundw
    case rel=>exact⟨k+1,_,by go_num,rfl,by omega,⟨(by rw[J0 ae];simpa using ah.1),(Zn M ad).trans ah.2.1,(by rw[J0 ae,Y9];omega)⟩⟩
    case measure=>simp[intOf];omega
  ·obtain rfl:k=r.length-1:=by omega
   have aA:¬((r.length-1:Nat):Int)+1<(r.length:Int):=by omega
   obtain⟨u,⟨g,o,K',S',qn,qe,q3,n1,c1,n2,c2,n3,c3,rfl,rfl,a0,a1,a2,a3,a4⟩,hu⟩:=HV.at (r.length-1) (by omega);have au:=zgn (show r.length-1<r.length by omega);have av:szL d (r.take (r.length-1+1))<=szL d r:=zl1 _ _;obtain⟨m,hm⟩:=Ze (r.length-1)
   obtain⟨L0,ak⟩:=Ze (sigS d r (r.length-1))
   obtain⟨LT,an⟩:=Ze (tyS d (r[r.length-1]'(by omega)))
   have ao:=J0 HL;rw[<-ak,<-an]at ao;have aQ:L0.length<=400000:=by rw[ak];omega
   have aF:=ho;obtain⟨vo,ax⟩:=Ze (Value.slice pv (sigS d r (r.length-1)).length cv)
   have aG:ZH (wr.ownsRow w.heap.size 9 1 vo L0.length (za8 L0)):=by show World.ownsRow _ _ _ _ _ _ _;rw[ax,ak];exact ho
   obtain⟨B,Z,ap,sB,_,_⟩:=Zx w
   have cT:∀W,B W->Zg 34 #[.agg #[Zi K',.string S',.slice qn n1 c1,.slice qe n2 c2,.slice q3 n3 c3]] W fun e w'=>(∃u,e=.returned u/\w'.ownsRow W.heap.size 9 1 u LT.length (za8 LT)/\0<LT.length/\LT.length<=300000)/\ZB W w':=fun W h=>by
    rw[an];exact(HI _ _ W (TyValD.below (Z W h) hu) (HR _ (by simp)) (by omega)).mono fun e w' ⟨⟨u,he,h1,h2,h3⟩,t⟩=>⟨⟨u,he,h1,h2,by omega⟩,t⟩
   have cC:∀W,B W->W.cell? ⟨g,o+(r.length-1)*5,none⟩=some (Zi K')/\W.cell? ⟨g,o+(r.length-1)*5+1,none⟩=some (.string S')/\W.cell? ⟨g,o+(r.length-1)*5+2,none⟩=some (.slice qn n1 c1)/\W.cell? ⟨g,o+(r.length-1)*5+3,none⟩=some (.slice qe n2 c2)/\W.cell? ⟨g,o+(r.length-1)*5+4,none⟩=some (.slice q3 n3 c3):=fun W h=>⟨((Z W h).cell (p:=⟨g,_,none⟩) (J2 a0)).trans a0,((Z W h).cell (p:=⟨g,_,none⟩) (J2 a1)).trans a1,((Z W h).cell (p:=⟨g,_,none⟩) (J2 a2)).trans a2,((Z W h).cell (p:=⟨g,_,none⟩) (J2 a3)).trans a3,((Z W h).cell (p:=⟨g,_,none⟩) (J2 a4)).trans a4⟩
   have sV:∀(i:Nat) (v:Value) (W W':Zw),VS vo (.slice (Zs g o) r.length c) (.pointer (Zs g (o+(r.length-1)*5))) (.agg #[Zi K',.string S',.slice qn n1 c1,.slice qe n2 c2,.slice q3 n3 c3]) r.length w.heap.size L i v W->ZB W W'->VS vo (.slice (Zs g o) r.length c) (.pointer (Zs g (o+(r.length-1)*5))) (.agg #[Zi K',.string S',.slice qn n1 c1,.slice qe n2 c2,.slice q3 n3 c3]) r.length w.heap.size L i v W':=fun i v W W' h t=>VS.on i h (Je t) fun _=>zan _
   clear ho aF HO hlen au av a0 a1 a2 a3 a4 hu HV HL HI HR ak an;have aH:=J3 ao;clear ao;go_wp2_with fail;refine region_more (n:=36) Zk Zk Zk rfl B (VS vo (.slice (Zs g o) r.length c) (.pointer (Zs g (o+(r.length-1)*5))) (.agg #[Zi K',.string S',.slice qn n1 c1,.slice qe n2 c2,.slice q3 n3 c3]) r.length w.heap.size L) (XS w.heap.size vo L0 (L0++[[41]]) LT)
    (ap _ (Jb t)) ⟨fun _=>⟨aG.drew,(fun _ h=>nomatch h),(fun _ h=>nomatch h)⟩,fun _=>⟨(fun _ h=>nomatch h),(fun _ h=>nomatch h)⟩⟩ ?each ?fin
   case each=>
    refine⟨?_,?_,?_,?_,?_,?_,?_,?_,?_,?_,?_,?_,trivial⟩
    ·exact Qc sB sV (fun f v W W' h t=>XS.on (by decide) (by decide) (by decide) (by decide) h t) (fun U W hz Y V G dep=>⟨J1 rfl,Jp rfl (show U.eval (.tmp 3)=vo from(V 3 Zk).trans ax.symm) ⟨_,rfl,Zr,rfl⟩⟩)
    ·refine fun U W f hz Y V G hV I ac down dep=>⟨J1 rfl,zb7 (s:=⟨#[41]⟩) rfl rfl ⟨_,rfl,sB _ _ G (al1 _ _),trivial,fun j x hj=>sV j x _ _ (hV j x hj) (al1 _ _),?_⟩⟩
     have hg:=Je (al1 W (.cells #[.string ⟨#[41]⟩] 9));unfold XS at I ⊢;rw[J7 f _ (show 2≠1 by decide),J7 f _ (show 9≠1 by decide),J7 f _ (show 10≠1 by decide)];refine⟨fun e=>?_,fun e=>⟨fun x J=>⟨((I.2 e).1 x J).1.kept hg (zan _),((I.2 e).1 x J).2⟩,fun x J=>⟨((I.2 e).2 x J).1.kept hg (zan _),((I.2 e).2 x J).2⟩⟩⟩;obtain⟨k1,_,k3⟩:=I.1 e;refine⟨k1.kept hg (zan _),fun x J=>?_,k3⟩;rw[Jn]at J;obtain rfl:=Y1 J;exact⟨_,rfl,hp1 W _,fun e'=>by have:=(k1.lt _ e').2;omega⟩
    ·intro U W f hz Y V G hV I ac down dep;obtain⟨k1,k2,k3⟩:=I.1 ac;obtain⟨g1,q1,q2,ay⟩:=k2 _ (dep 1 26 Zk Zk);obtain⟨g',aI,W4,E,aa⟩:=Left.appends (ms:=[[41]]) k1 (Z W G).size (by simp;omega) (by decide) (srow1 (s:=[41]) q2);refine⟨J1 rfl,zin rfl (hV 0 _ (dep 0 25 Zk Zk)) q1 E ⟨_,rfl,ap _ ((Z _ G).trans aa.2.1),trivial,fun j x hj=>VS.on j (hV j x hj) aa.grown fun aq=>?_,?_⟩⟩
     ·exfalso;have aJ:f 10≠none:=by
       rcases aq with rfl|rfl
       ·rw[hj];simp
       ·exact down 11 10 Zk (by rw[hj];simp)
      exact down 10 2 Zk aJ ac
     ·unfold XS at I ⊢;rw[J7 f _ (show 1≠2 by decide),J7 f _ (show 9≠2 by decide),J7 f _ (show 10≠2 by decide),Jn];refine⟨(fun e=>nomatch e),fun e=>⟨fun x J=>?_,fun x J=>⟨((I.2 e).2 x J).1.kept aa.grown ?_,((I.2 e).2 x J).2⟩⟩⟩
      ·obtain rfl:=Y1 J;refine⟨by simpa using aa.1,fun u hu g2 af e'=>?_⟩;have aR:=(((I.2 e).2 u hu).1.lt g2 af).2;rcases aa.2.2.2 with h|h
       ·exact k3 u hu g2 af (h ▸ e')
       ·have:=h g2 e';omega
      ·cases hxb:x.ownBlock with
       | none=>exact .inl rfl
       | some g2=>exact .inr fun e'=>k3 x J g2 hxb e'.symm
    ·exact Qc sB sV (fun f v W W' h t=>XS.on (by decide) (by decide) (by decide) (by decide) h t) (fun U W hz Y V G dep=>⟨J1 rfl,Jp rfl (show U.eval (.tmp 0)=.slice (Zs g o) r.length c from V 0 Zk) ⟨_,rfl,Zr,rfl⟩⟩)
    ·exact Qc sB sV (fun f v W W' h t=>XS.on (by decide) (by decide) (by decide) (by decide) h t) (fun U W hz Y V G dep=>⟨J1 rfl,Jp rfl (show U.eval (.tmp 0)=.slice (Zs g o) r.length c from V 0 Zk) ⟨_,rfl,Zr,rfl⟩⟩)
    ·exact Qc sB sV (fun f v W W' h t=>XS.on (by decide) (by decide) (by decide) (by decide) h t) (fun U W hz Y V G dep=>⟨J1 rfl,op_len rfl (dep 4 29 Zk Zk) ⟨_,rfl,Zr,rfl⟩⟩)
    ·exact Qc sB sV (fun f v W W' h t=>XS.on (by decide) (by decide) (by decide) (by decide) h t) (fun U W hz Y V G dep=>⟨J1 rfl,op_sub1 rfl (dep 5 30 Zk Zk) az (by omega) ⟨_,rfl,Zr,rfl⟩⟩)
    ·exact Qc sB sV (fun f v W W' h t=>XS.on (by decide) (by decide) (by decide) (by decide) h t) (fun U W hz Y V G dep=>⟨J1 rfl,zi8 rfl (dep 3 28 Zk Zk) (dep 6 31 Zk Zk) (by omega) ⟨_,rfl,Zr,rfl⟩⟩)
    ·exact Qc sB sV (fun f v W W' h t=>XS.on (by decide) (by decide) (by decide) (by decide) h t) (fun U W hz Y V G dep=>⟨J1 rfl,zmo rfl (dep 7 32 Zk Zk) (cC W G).1 (cC W G).2.1 (cC W G).2.2.1 (cC W G).2.2.2.1 (cC W G).2.2.2.2 ⟨_,rfl,Zr,rfl⟩⟩)
    ·refine fun U W f hz Y V G hV I ac down dep=>⟨J1 rfl,zai rfl (hV 8 _ (dep 8 33 Zk Zk)) zd0 ((cT W G).mono fun e w' ⟨⟨u,he,h1,h2,h3⟩,t⟩=>⟨u,he,u,rfl,sB _ _ G t,trivial,fun j x hj=>sV j x _ _ (hV j x hj) t,?_⟩)⟩
     have hg:=Je t;unfold XS at I ⊢;rw[J7 f _ (show 1≠9 by decide),J7 f _ (show 2≠9 by decide),J7 f _ (show 10≠9 by decide),Jn];refine⟨fun e=>?_,fun e=>⟨fun x J=>⟨((I.2 e).1 x J).1.kept hg (zan _),fun y hy g2 af e'=>?_⟩,fun y hy=>?_⟩⟩
     ·obtain⟨k1,k2,_⟩:=I.1 e;refine⟨k1.kept hg (zan _),fun x J=>?_,fun y hy g2 af e'=>?_⟩
      ·obtain⟨g1,q1,q2,ay⟩:=k2 x J;exact⟨g1,q1,kp t q2,ay⟩
      ·obtain rfl:=Y1 hy;have:=(h1.lt g2 af).1;have:=(k1.lt g2 e').2;omega
     ·obtain rfl:=Y1 hy;have:=(h1.lt g2 af).1;have:=(((I.2 e).1 x J).1.lt g2 e').2;omega
     ·obtain rfl:=Y1 hy;exact⟨h1.mono (Z W G).size,h2,h3⟩
    ·intro U W f hz Y V G hV I ac down dep;obtain⟨k1,k2⟩:=I.2 ac;have aK:=(k1 _ (dep 2 27 Zk Zk)).1;obtain⟨ar,ab,aS⟩:=k2 _ (dep 9 34 Zk Zk);obtain⟨g2,aw,e2⟩:=za6 ar ab;rw[e2]at ar;obtain⟨g',aI,W4,E,aa⟩:=Left.appends aK (Z W G).size (by simp;omega) ab (Qb ar);refine⟨J1 rfl,zin rfl rfl e2 E ⟨_,rfl,ap _ ((Z _ G).trans aa.2.1),(by show World.ownsRow _ _ _ _ _ _ _;rw[J0 aH];simpa using aa.1),fun j x hj=>VS.on j (hV j x hj) aa.grown fun aq=>?_,?_⟩⟩
     ·exfalso;rcases aq with rfl|rfl
      ·rw[ac]at hj;cases hj
      ·exact down 11 10 Zk (by rw[hj];simp) ac
     ·unfold XS;rw[J7 f _ (show 2≠10 by decide),Jn];exact⟨(fun e=>by rw[dep 2 27 Zk Zk]at e;cases e),(fun e=>nomatch e)⟩
    ·exact Qc sB sV (fun f v W W' h t=>XS.on (by decide) (by decide) (by decide) (by decide) h t) (fun U W hz Y V G dep=>⟨J1 rfl,zhv rfl rfl ⟨_,rfl,Zr,(dep 10 35 Zk Zk)⟩⟩)
   case fin=>
    intro U W hz Y V G dep;have h2:W.ownsRow w.heap.size 9 1 (U.tmps.getD 2 undef) L.length (za8 L):=dep 11 2 Zk;have aL:=Z W G;clear dep V cT cC;go_wp2;exact Yi (v:=U.tmps.getD 2 undef) (by simp[results,Tryz.results59,go_sem]) Y ⟨⟨_,rfl,h2⟩,aL⟩
theorem sig_toks (d:Nat) (t:Ty (d+1)) (c:0<t.2.2.2.2.length):(Jf (d+1) true t).map J5=sigS d t.2.2.2.2 (t.2.2.2.2.length-1)++[[41]]++tyS d (t.2.2.2.2[t.2.2.2.2.length-1]'(by omega)):=by
 rw[Jf];simp only[if_true];unfold sigS tyS;rw[Yj,Yf,Yf,Xv,JC,JC];rw[Y6 (by omega)];simp only[X5,YY,Xe,YD,Xc]
 congr 3
 funext i
 rw[Yj]
 congr 1
 ·split
  ·simp[JC]
  ·rfl
 ·cases t.2.2.2.2[i]? <;> simp
end Go.Proofs.YtdcbglnhhbmpgaaGreatDoor
