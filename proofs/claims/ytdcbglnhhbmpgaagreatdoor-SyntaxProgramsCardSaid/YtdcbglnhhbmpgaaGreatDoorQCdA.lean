import Derived.Test.YtdcbglnhhbmpgaaGreatDoorQStW
import Derived.Test.YtdcbglnhhbmpgaaGreatDoorQRefD
import Derived.Deep.CutBlock
import Derived.Test.YtdcbglnhhbmpgaaGreatDoorQRunsC
set_option maxHeartbeats 4000000
set_option maxRecDepth 100000
namespace Go.Proofs.YtdcbglnhhbmpgaaGreatDoor
open Go Go.RowKit Lx
abbrev Pa (E:Nat):Type:=Bs×Ty E
abbrev Co (E D d m:Nat):Type:=Int×Bs×Bs×List (Pa E)×Ty E×List (St D d m)
abbrev De (E:Nat):Type:=Int×Bs×Ty E
abbrev Pr (E D d m:Nat):Type:=List (De E)×List (Co E D d m)×List (Co E D d m)×Co E D d m
abbrev zcw {E D d m:Nat} (c:Co E D d m):Bs:=c.2.1
abbrev JV {E D d m:Nat} (c:Co E D d m):Bs:=c.2.2.1
abbrev cPs {E D d m:Nat} (c:Co E D d m):List (Pa E):=c.2.2.2.1
abbrev zgv {E D d m:Nat} (c:Co E D d m):Ty E:=c.2.2.2.2.1
abbrev zaf {E D d m:Nat} (c:Co E D d m):List (St D d m):=c.2.2.2.2.2
structure T5 where
 K:Int
 S:Zy
 pn:Zo
 pe:Zo
 pp:Zo
 nn:Nat
 cn:Nat
 ne:Nat
 ce:Nat
 np:Nat
 cp:Nat
abbrev T5.val (x:T5):Value:=.agg #[Zi x.K,.string x.S,.slice x.pn x.nn x.cn,.slice x.pe x.ne x.ce,.slice x.pp x.np x.cp]
def T5At (W:Zw) (g o:Nat) (x:T5):Prop:=
 ZK5 W g o (Zi x.K) (.string x.S) (.slice x.pn x.nn x.cn) (.slice x.pe x.ne x.ce) (.slice x.pp x.np x.cp)
theorem T5At.below {w w':Zw} {g o:Nat} {x:T5} (h:T5At w g o x) (c:ZB w w'):T5At w' g o x:=by
 obtain⟨a0,j,a2,a3,a4⟩:=h;exact⟨(c.cell (p:=⟨g,_,none⟩) (J2 a0)).trans a0,(c.cell (p:=⟨g,_,none⟩) (J2 j)).trans j,(c.cell (p:=⟨g,_,none⟩) (J2 a2)).trans a2,(c.cell (p:=⟨g,_,none⟩) (J2 a3)).trans a3,(c.cell (p:=⟨g,_,none⟩) (J2 a4)).trans a4⟩
theorem t5_of {W:Zw}:∀{E:Nat} {v:Value} {t:Ty E},TyValD W E v t->∃x:T5,v=x.val
 | 0,_,_,h=>h.elim
 | _+1,_,t,⟨pn,pe,pp,cn,ce,cp,e,_⟩=>⟨⟨t.1,⟨t.2.1.toArray⟩,pn,pe,pp,_,cn,_,ce,_,cp⟩,e⟩
def PaRow (W:Zw) (E:Nat) (v:Value) (h:List (Pa E)):Prop:=
 ∃(p:Zo) (c:Nat),v=.slice p h.length c/\∀j x,h[j]?=some x->∃(g o:Nat) (y:T5),p=some ⟨g,o,none⟩/\W.cell? ⟨g,o+j*6,none⟩=some (.string ⟨x.1.toArray⟩)/\T5At W g (o+j*6+1) y/\TyValD W E y.val x.2
theorem PaRow.below {w w':Zw} {E:Nat} {v:Value} {s:List (Pa E)} (h:PaRow w E v s) (r:ZB w w'):PaRow w' E v s:=by
 obtain⟨p,c,rfl,hp⟩:=h;refine⟨p,c,rfl,fun j x t=>?_⟩;obtain⟨g,o,y,rfl,a0,u,a2⟩:=hp j x t;exact⟨g,o,y,rfl,(r.cell (p:=⟨g,_,none⟩) (J2 a0)).trans a0,u.below r,TyValD.below r a2⟩
structure C10 where
 A:Int
 O:Zy
 N:Zy
 pq:Zo
 nq:Nat
 cq:Nat
 T:T5
 pb:Zo
 nb:Nat
 cb:Nat
abbrev C10.val (x:C10):Value:=.agg #[Zi x.A,.string x.O,.string x.N,.slice x.pq x.nq x.cq,Zi x.T.K,.string x.T.S,.slice x.T.pn x.T.nn x.T.cn,.slice x.T.pe x.T.ne x.T.ce,.slice x.T.pp x.T.np x.T.cp,.slice x.pb x.nb x.cb]
def C10At (W:Zw) (g o:Nat) (x:C10):Prop:=
 W.cell? ⟨g,o,none⟩=some (Zi x.A)/\W.cell? ⟨g,o+1,none⟩=some (.string x.O)/\W.cell? ⟨g,o+2,none⟩=some (.string x.N)/\W.cell? ⟨g,o+3,none⟩=some (.slice x.pq x.nq x.cq)/\T5At W g (o+4) x.T/\W.cell? ⟨g,o+9,none⟩=some (.slice x.pb x.nb x.cb)
theorem C10At.below {w w':Zw} {g o:Nat} {x:C10} (h:C10At w g o x) (c:ZB w w'):C10At w' g o x:=by
 obtain⟨a0,j,a2,a3,a4,a5⟩:=h;exact⟨(c.cell (p:=⟨g,_,none⟩) (J2 a0)).trans a0,(c.cell (p:=⟨g,_,none⟩) (J2 j)).trans j,(c.cell (p:=⟨g,_,none⟩) (J2 a2)).trans a2,(c.cell (p:=⟨g,_,none⟩) (J2 a3)).trans a3,a4.below c,(c.cell (p:=⟨g,_,none⟩) (J2 a5)).trans a5⟩
def CoIs (W:Zw) (E D d m:Nat) (x:C10) (c:Co E D d m):Prop:=
 x.A=c.1/\x.O=⟨(zcw c).toArray⟩/\x.N=⟨(JV c).toArray⟩/\PaRow W E (.slice x.pq x.nq x.cq) (cPs c)/\TyValD W E x.T.val (zgv c)/\StRow W D d m (.slice x.pb x.nb x.cb) (zaf c)
theorem CoIs.below {w w':Zw} {E D d m:Nat} {x:C10} {c:Co E D d m} (h:CoIs w E D d m x c) (g:ZB w w'):CoIs w' E D d m x c:=
 ⟨h.1,h.2.1,h.2.2.1,h.2.2.2.1.below g,TyValD.below g h.2.2.2.2.1,StRow.below g m h.2.2.2.2.2⟩
def CoRow (W:Zw) (E D d m:Nat) (v:Value) (cs:List (Co E D d m)):Prop:=
 ∃(p:Zo) (c:Nat),v=.slice p cs.length c/\∀j x,cs[j]?=some x->∃(g o:Nat) (y:C10),p=some ⟨g,o,none⟩/\C10At W g (o+j*10) y/\CoIs W E D d m y x
theorem CoRow.below {w w':Zw} {E D d m:Nat} {v:Value} {cs:List (Co E D d m)} (h:CoRow w E D d m v cs) (r:ZB w w'):CoRow w' E D d m v cs:=by
 obtain⟨p,c,rfl,hp⟩:=h;refine⟨p,c,rfl,fun j x s=>?_⟩;obtain⟨g,o,y,rfl,a0,t⟩:=hp j x s;exact⟨g,o,y,rfl,a0.below r,t.below r⟩
def DeRow (W:Zw) (E:Nat) (v:Value) (h:List (De E)):Prop:=
 ∃(p:Zo) (c:Nat),v=.slice p h.length c/\∀j x,h[j]?=some x->∃(g o:Nat) (y:T5),p=some ⟨g,o,none⟩/\W.cell? ⟨g,o+j*7,none⟩=some (Zi x.1)/\W.cell? ⟨g,o+j*7+1,none⟩=some (.string ⟨x.2.1.toArray⟩)/\T5At W g (o+j*7+2) y/\TyValD W E y.val x.2.2
theorem DeRow.below {w w':Zw} {E:Nat} {v:Value} {s:List (De E)} (h:DeRow w E v s) (r:ZB w w'):DeRow w' E v s:=by
 obtain⟨p,c,rfl,hp⟩:=h;refine⟨p,c,rfl,fun j x u=>?_⟩;obtain⟨g,o,y,rfl,a0,t,a2,a3⟩:=hp j x u;exact⟨g,o,y,rfl,(r.cell (p:=⟨g,_,none⟩) (J2 a0)).trans a0,(r.cell (p:=⟨g,_,none⟩) (J2 t)).trans t,a2.below r,TyValD.below r a3⟩
def zav (o n:Bs):Bool:=!o.isEmpty&&!n.isEmpty
def zdc (o n:Bs):Bool:=o.isEmpty&&!n.isEmpty
def zix (o n:Bs) (q:Nat):Bool:=o.isEmpty&&n.isEmpty&&decide (q=0)
def zgb (E:Nat) (c:List (Pa E)):Bool:=(c.all fun p=>JP E 64 p.2)&&zaj (c.map (·.1))
def JD (E D d m:Nat) (c:Co E D d m):Bool:=
 !(!(zcw c).isEmpty&&!za3 2 (zcw c))&&!(!(JV c).isEmpty&&!za3 1 (JV c))&&(zav (zcw c) (JV c)||zdc (zcw c) (JV c)||zix (zcw c) (JV c) (cPs c).length)&&zgb E (cPs c)&&JP E 64 (zgv c)&&za2 D d m 64 (zaf c)
def zc5 (E:Nat) (c:List (De E)):Bool:=c.all fun x=>za3 2 x.2.1&&JP E 64 x.2.2
def zb9 (E D d m:Nat) (p:Pr E D d m):Bool:=
 zc5 E p.1&&(p.2.1.all fun c=>zav (zcw c) (JV c)&&JD E D d m c)&&(p.2.2.1.all fun c=>zdc (zcw c) (JV c)&&JD E D d m c)&&zix (zcw p.2.2.2) (JV p.2.2.2) (cPs p.2.2.2).length&&JD E D d m p.2.2.2
def psT (E:Nat) (c:List (Pa E)):List Tok:=zd3 c.length fun i=>(c[i]?.map fun x=>tN x.1::Jf E false x.2).getD []
def coT (E D d m:Nat) (c:Co E D d m):List Tok:=
 (if zav (zcw c) (JV c)=true then tW [109,101,116,104,111,100]::tT (zcw c)::tS [46]::tN (JV c)::psT E (cPs c)else if zdc (zcw c) (JV c)=true then tW [102,117,110,99]::tN (JV c)::psT E (cPs c)else[tW [109,97,105,110]])++(Jf E false (zgv c)++(tS [123]::(zes D d m (zaf c)++[tS [125]])))
def deT (E:Nat) (x:De E):List Tok:=tW [116,121,112,101]::tT x.2.1::tS [61]::(Jf E false x.2.2++[tS [59]])
def prT (E D d m:Nat) (p:Pr E D d m):List Tok:=p.1.flatMap (deT E)++(p.2.1.flatMap (coT E D d m)++(p.2.2.1.flatMap (coT E D d m)++coT E D d m p.2.2.2))
def zhg (E D d m:Nat) (c:Co E D d m):Sum Nat Bs:=if JD E D d m c=true then join (Jc [] (coT E D d m c))else .inl 1
def zhs (E D d m:Nat) (p:Pr E D d m):Sum Nat Bs:=if zb9 E D d m p=true then join (Jc [] (prT E D d m p))else .inl 1
abbrev cBox (x:C10):Obj:=.cells #[Zi x.A,.string x.O,.string x.N,.slice x.pq x.nq x.cq,Zi x.T.K,.string x.T.S,.slice x.T.pn x.T.nn x.T.cn,.slice x.T.pe x.T.ne x.T.ce,.slice x.T.pp x.T.np x.T.cp,.slice x.pb x.nb x.cb] 34
theorem zbr {x:C10} {w wr:Zw} (c:Below (w.alloc (cBox x)).heap.size (w.alloc (cBox x)) wr) :
  ZL10 wr w.heap.size (Zi x.A) (.string x.O) (.string x.N) (.slice x.pq x.nq x.cq) (Zi x.T.K) (.string x.T.S) (.slice x.T.pn x.T.nn x.T.cn) (.slice x.T.pe x.T.ne x.T.ce) (.slice x.T.pp x.T.np x.T.cp) (.slice x.pb x.nb x.cb):=by
 have h:∀j,wr.cell? ⟨w.heap.size,j,none⟩=(#[Zi x.A,.string x.O,.string x.N,.slice x.pq x.nq x.cq,Zi x.T.K,.string x.T.S,.slice x.T.pn x.T.nn x.T.cn,.slice x.T.pe x.T.ne x.T.ce,.slice x.T.pp x.T.np x.T.cp,.slice x.pb x.nb x.cb])[j]?:=fun j=>by
  rw[c.cell (p:=⟨w.heap.size,j,none⟩) (by simp),Ya _ _ _ _ rfl]
 exact⟨h 0,h 1,h 2,h 3,h 4,h 5,h 6,h 7,h 8,h 9⟩
theorem JK {O:Zy} {l:Bs} (h:O=⟨l.toArray⟩):(O=⟨#[]⟩/\l.isEmpty=true)∨((O.toList==[])=false/\l.isEmpty=false):=by
 rcases hl:l with _|⟨a,r⟩
 ·subst hl;exact .inl ⟨h,rfl⟩
 ·refine .inr ⟨?_,rfl⟩;have c:=bs_ne (a:=l) (b:=[]) (by rw[hl];simp);rw[<-h]at c;simpa using c
theorem zdf (x:C10) (o n:Bs) (w:Zw) (c:x.O=⟨o.toArray⟩) (g:x.N=⟨n.toArray⟩):ZC 62 #[x.val] w (.bool (zav o n)):=by
 obtain⟨A,O,N,pq,nq,cq,⟨K,S,pn,pe,pp,nn,cn,ne,ce,np,cp⟩,pb,nb,cb⟩:=x;dsimp only at c g;rcases JK c with⟨rfl,h⟩|⟨t,h⟩ <;> rcases JK g with⟨rfl,j⟩|⟨u,j⟩
 all_goals
  have r:=J3 h;have s:=J3 j;clear c g h j;go_enter Tryz.func62,Tryz.ntmps62;go_wp2;go_ret;exact⟨by rw[zav,J0 r,J0 s];rfl,Za _ _⟩
theorem zgk (x:C10) (o n:Bs) (w:Zw) (c:x.O=⟨o.toArray⟩) (g:x.N=⟨n.toArray⟩):ZC 63 #[x.val] w (.bool (zdc o n)):=by
 obtain⟨A,O,N,pq,nq,cq,⟨K,S,pn,pe,pp,nn,cn,ne,ce,np,cp⟩,pb,nb,cb⟩:=x;dsimp only at c g;rcases JK c with⟨rfl,h⟩|⟨t,h⟩ <;> rcases JK g with⟨rfl,j⟩|⟨u,j⟩
 all_goals
  have r:=J3 h;have s:=J3 j;clear c g h j;go_enter Tryz.func63,Tryz.ntmps63;go_wp2;go_ret;exact⟨by rw[zdc,J0 r,J0 s];rfl,Za _ _⟩
theorem isMain_any (x:C10) (o n:Bs) (w:Zw) (h:x.O=⟨o.toArray⟩) (j:x.N=⟨n.toArray⟩):ZC 64 #[x.val] w (.bool (zix o n x.nq)):=by
 obtain⟨A,O,N,pq,nq,cq,⟨K,S,pn,pe,pp,nn,cn,ne,ce,np,cp⟩,pb,nb,cb⟩:=x;dsimp only at h j;by_cases r:nq=0
 ·subst r;rcases JK h with⟨rfl,c⟩|⟨s,c⟩ <;> rcases JK j with⟨rfl,g⟩|⟨t,g⟩
  all_goals
   have u:=J3 c;have G:=J3 g;clear h j c g;go_enter Tryz.func64,Tryz.ntmps64;go_wp2;go_ret;exact⟨by rw[zix,J0 u,J0 G];rfl,Za _ _⟩
 ·have L:((nq:Int)==0)=false:=Y3.2 (by omega);have I:=J3 r;clear r;rcases JK h with⟨rfl,c⟩|⟨s,c⟩ <;> rcases JK j with⟨rfl,g⟩|⟨t,g⟩
  all_goals
   have J:ZH (zix o n nq=false):=by show _=_;rw[zix,Ym (J0 I),Xw]
   clear h j c g;go_enter Tryz.func64,Tryz.ntmps64;go_wp2;go_ret;exact⟨by rw[J0 J];rfl,Za _ _⟩
theorem rtyD:∀{E:Nat} {v:Value} {t:Ty E} {w:Zw},TyValD w E v t->za5 E [t]->Tab w->4<=w.heap.size ->
  ZC 49 #[v,Zi 64] w (.bool (JP E 64 t))
 | 0,_,_,_,h,_,_,_=>h.elim
 | E+1,v,t,w,h,c,g,j=>by
  rw[zcz];exact zg0 E (zbo E) v t 64 w h (c.2 t (by simp)).1 (c.2 t (by simp)).2 (by omega) (by omega) g j
abbrev dBox (A:Int) (N:Zy) (x:T5):Obj:=.cells #[Zi A,.string N,Zi x.K,.string x.S,.slice x.pn x.nn x.cn,.slice x.pe x.ne x.ce,.slice x.pp x.np x.cp] 52
theorem dbox_cells {A:Int} {N:Zy} {x:T5} {w wr:Zw} (c:Below (w.alloc (dBox A N x)).heap.size (w.alloc (dBox A N x)) wr) :
  ZL7 wr w.heap.size (Zi A) (.string N) (Zi x.K) (.string x.S) (.slice x.pn x.nn x.cn) (.slice x.pe x.ne x.ce) (.slice x.pp x.np x.cp):=by
 have h:∀j,wr.cell? ⟨w.heap.size,j,none⟩=(#[Zi A,.string N,Zi x.K,.string x.S,.slice x.pn x.nn x.cn,.slice x.pe x.ne x.ce,.slice x.pp x.np x.cp])[j]?:=fun j=>by
  rw[c.cell (p:=⟨w.heap.size,j,none⟩) (by simp),Ya _ _ _ _ rfl]
 exact⟨h 0,h 1,h 2,h 3,h 4,h 5,h 6⟩
theorem zjw {E:Nat} {c:List (De E)} {k:Nat} (h:k<c.length):zc5 E (c.drop k)=(za3 2 c[k].2.1&&JP E 64 c[k].2.2&&zc5 E (c.drop (k+1))):=by
 rw[Yt h,zc5,zc5,YL]
theorem rightDefs_any (E:Nat) (v:Value) (h:List (De E)) (w:Zw) (hv:DeRow w E v h) (hl:h.length<=1000000) (hf:∀x∈h,x.2.1.length<=35184372088832/\za5 E [x.2.2]) (ht:Tab w) (h5:4<=w.heap.size) :
  ZC 60 #[v] w (.bool (zc5 E h)):=by
 obtain⟨p,c,rfl,hp⟩:=hv;have HP:=J3 hp;have HF:=J3 hf;have HT:=J3 ht;clear hp hf ht;go_enter Tryz.func60,Tryz.ntmps60;go_wp2
 go_loopw [7] (fun i wr=>∃k:Nat,i=Zi k/\k<=h.length/\ZH (zc5 E h=zc5 E (h.drop k))/\ZB w wr) (fun i _=>h.length-(intOf i).toNat)
 case atStart=>exact⟨0,rfl,by omega,rfl,Zr⟩
 case round=>
  obtain⟨k,rfl,hk,G,j⟩:=hrel;by_cases aa:k<h.length
  ·obtain⟨g,o,⟨K,S,pn,pe,pp,nn,cn,ne,ce,np,cp⟩,rfl,a0,a1,a2,a3⟩:=HP k h[k] (by simp[aa]);have ad:(k:Int)<(h.length:Int):=by omega
   obtain⟨q1,q2⟩:=HF h[k] (by simp);obtain⟨L,M,U,c3,c4⟩:=a2.below (w':=w) Zr;dsimp only at L M U c3 c4;have hg:=J2 a0;have b0:=Zq j a0;have b1:=Zq j a1;have b2:wr.cell? ⟨g,o+k*7+2,none⟩=some (Zi K):=Zq j L;have b3:wr.cell? ⟨g,o+k*7+3,none⟩=some (.string S):=Zq j M;have b4:wr.cell? ⟨g,o+k*7+4,none⟩=some (.slice pn nn cn):=Zq j U;have b5:wr.cell? ⟨g,o+k*7+5,none⟩=some (.slice pe ne ce):=Zq j c3;have b6:wr.cell? ⟨g,o+k*7+6,none⟩=some (.slice pp np cp):=Zq j c4;have HB:=J3 j;have I:=J3 (zjw aa);have ab:=j.size;obtain⟨z1,V⟩:∃z,z=za3 2 h[k].2.1:=⟨_,rfl⟩
   obtain⟨z2,Y⟩:∃z,z=JP E 64 h[k].2.2:=⟨_,rfl⟩
   have s:ZH (∀W,ZB w W->ZC 73 #[Zi 2,.string ⟨h[k].2.1.toArray⟩] W (.bool z1)):=fun W t=>by
    rw[V];exact zcb 2 _ W q1 (HT.below t h5) (by have:=t.size;omega)
   have J:ZH (∀W,ZB w W->ZC 49 #[.agg #[Zi K,.string S,.slice pn nn cn,.slice pe ne ce,.slice pp np cp],Zi 64] W (.bool z2)):=fun W t=>by
    rw[Y];exact rtyD (TyValD.below t a3) q2 (HT.below t h5) (by have:=t.size;omega)
   rw[<-V,<-Y]at I;have H1:ZH (ZB w (wr.alloc (dBox h[k].1 ⟨h[k].2.1.toArray⟩ ⟨K,S,pn,pe,pp,nn,cn,ne,ce,np,cp⟩))):=j.alloc ab _;clear a0 a1 a2 a3 L M U c3 c4 j q1 q2 V Y hg
   cases z1
   ·go_wp2_with (go_at_call 73;refine(s _ H1).mono ?_;clear s;rintro x w1 ⟨rfl,r⟩);go_ret;exact⟨by rw[J0 G,J0 I];rfl,H1.trans (r.mono (by simp;omega))⟩
   ·cases z2
    ·go_wp2_with (first|(go_at_call 73;refine(s _ H1).mono ?_;clear s;rintro x w1 ⟨rfl,r⟩;obtain⟨d0,d1,d2,d3,d4,d5,d6⟩:=dbox_cells r;have u:=J3 (H1.trans (r.mono (by simp;omega)));have ac:=r.size;clear r)|(go_at_call 49;refine(J _ u).mono ?_;clear J;rintro x w2 ⟨rfl,Z⟩));go_ret;exact⟨by rw[J0 G,J0 I];rfl,Zn u Z⟩
    ·go_wp2_with (first|(go_at_call 73;refine(s _ H1).mono ?_;clear s;rintro x w1 ⟨rfl,r⟩;obtain⟨d0,d1,d2,d3,d4,d5,d6⟩:=dbox_cells r;have u:=J3 (H1.trans (r.mono (by simp;omega)));have ac:=r.size;clear r)|(go_at_call 49;refine(J _ u).mono ?_;clear J;rintro x w2 ⟨rfl,Z⟩));go_roundw
     case rel=>exact⟨k+1,by go_num,by omega,J3 (by rw[J0 G,J0 I];rfl),Zn u Z⟩
     case measure=>simp[intOf];omega
  ·go_wp2;go_ret;exact⟨by rw[J0 G,Yg (by omega)];rfl,j⟩
theorem info_str9:(Tryz.prog.info? 9).map (fun i=>(i.zero,i.size,i.bytes))=some (some (.string ⟨#[]⟩),1,16):=by kernel_rfl
def nmF (c:List Bs) (k:Nat):List Value:=za8 (c.take k)++List.replicate (c.length-k) (.string ⟨#[]⟩)
theorem nmF_next {c:List Bs} {k:Nat} (h:k<c.length):(nmF c k).set k (.string ⟨c[k].toArray⟩)=nmF c (k+1):=by
 have g:(za8 (c.take k)).length=k:=by simp[za8];omega
 unfold nmF;rw[List.set_append_right _ _ (by omega),g,Nat.sub_self,show c.length-k=(c.length-(k+1))+1 from by omega,List.replicate_succ,Xu,show c.take (k+1)=c.take k++[c[k]]from by rw[List.take_add_one,Y6 h];rfl];unfold za8;rw[Yj,Xe];rfl
theorem nmF_all {c:List Bs}:nmF c c.length=za8 c:=by simp[nmF]
theorem nmF_none {c:List Bs}:nmF c 0=(madeCells (Value.cells (.string ⟨#[]⟩)) (c.length*1)).toList:=by
 rw[Nat.mul_one];show _=(madeCells #[.string ⟨#[]⟩] c.length).toList;rw[toList_madeCells_one];simp[nmF,za8]
theorem nmF_at {c:List Bs} {k:Nat} (h:k<c.length):(nmF c k)[k]?=some (.string ⟨#[]⟩):=by
 have g:(za8 (c.take k)).length=k:=by simp[za8];omega
 unfold nmF;rw[Yv (by omega),g,Nat.sub_self,List.getElem?_replicate,Ye (by omega)]
abbrev pBox (N:Zy) (x:T5):Obj:=.cells #[.string N,Zi x.K,.string x.S,.slice x.pn x.nn x.cn,.slice x.pe x.ne x.ce,.slice x.pp x.np x.cp] 94
theorem pbox_cells {N:Zy} {x:T5} {w wr:Zw} (c:Below (w.alloc (pBox N x)).heap.size (w.alloc (pBox N x)) wr) :
  ZL6 wr w.heap.size (.string N) (Zi x.K) (.string x.S) (.slice x.pn x.nn x.cn) (.slice x.pe x.ne x.ce) (.slice x.pp x.np x.cp):=by
 have h:∀j,wr.cell? ⟨w.heap.size,j,none⟩=(#[Value.string N,Zi x.K,.string x.S,.slice x.pn x.nn x.cn,.slice x.pe x.ne x.ce,.slice x.pp x.np x.cp])[j]?:=fun j=>by
  rw[c.cell (p:=⟨w.heap.size,j,none⟩) (by simp),Ya _ _ _ _ rfl]
 exact⟨h 0,h 1,h 2,h 3,h 4,h 5⟩
def paTs (E:Nat) (c:List (Pa E)):Bool:=c.all fun p=>JP E 64 p.2
theorem paTs_drop {E:Nat} {c:List (Pa E)} {k:Nat} (h:k<c.length):paTs E (c.drop k)=(JP E 64 c[k].2&&paTs E (c.drop (k+1))):=by
 rw[Yt h,paTs,paTs,YL]
theorem zml (E:Nat) (v:Value) (h:List (Pa E)) (w:Zw) (hv:PaRow w E v h) (hl:h.length<=1000000) (hf:∀x∈h,x.1.length<=35184372088832/\za5 E [x.2]) (ht:Tab w) (h5:4<=w.heap.size) :
  ZC 74 #[v] w (.bool (zgb E h)):=by
 obtain⟨p,c,rfl,hp⟩:=hv;have HP:=J3 hp;have HF:=J3 hf;have HT:=J3 ht;obtain⟨r,M⟩:=Ze (h.map (·.1))
 obtain⟨N,U⟩:=Ze h.length
 have u:ZH (r.length=N):=by show _=_;rw[M,U];simp
 have ad:=J3 M;have ae:=J3 U;have HR:ZH (zgb E h=(paTs E h&&zaj r)):=by show _=_;rw[M];rfl
 rw[<-U]at hl ⊢;clear hp hf ht M;have av:(N:Int)=N:=rfl;obtain⟨i0,hi,ak,al,am⟩:=Xx info_str9;have HB:ZB w w:=Zr;clear U;go_enter Tryz.func74,Tryz.ntmps74;go_wp2_with (at_make;refine wpList_make_full _ rfl _ _ 27 rfl w.heap.size 9 i0 (.string ⟨#[]⟩) 1 Tryz.underlying27 hi ak al .i64 .i64 _ _ N rfl rfl (by first|rfl|omega) (by first|rfl|omega) (by rw[am];omega) (by unfold maxLen;omega) (Y5 _) ?_;intro w1 af ag);rw[<-J0 u,<-nmF_none,J0 u]at af;have t:ZB w w1:=HB.grown ag (Y5 _) (fun k e=>by cases e);clear ag HB
 go_loopw [11] (fun i wr=>∃k:Nat,i=Zi k/\k<=N/\ZH (wr.ownsRow w.heap.size 9 1 (.slice (Zs w.heap.size 0) N N) N (nmF r k))/\ZH (paTs E h=paTs E (h.drop k))/\ZB w wr) (fun i _=>N-(intOf i).toNat)
 case atStart=>exact⟨0,rfl,by omega,af,rfl,t⟩
 case round=>
  obtain⟨k,rfl,hk,I,Y,j⟩:=hrel;have aw:w.heap.size<wr.heap.size:=(I.lt w.heap.size rfl).2;by_cases ax:k<N
  ·have ah:k<h.length:=by have:=J0 ae;omega
   obtain⟨g,o,⟨K,S,pn,pe,pp,nn,cn,ne,ce,np,cp⟩,rfl,a0,a2,a3⟩:=HP k h[k] (by simp[ah]);have ay:(k:Int)<(N:Int):=by omega
   obtain⟨q1,q2⟩:=HF h[k] (by simp);obtain⟨Z,c1,c2,c3,c4⟩:=a2.below (w':=w) Zr;dsimp only at Z c1 c2 c3 c4;have hg:=J2 a0;have b0:=Zq j a0;have b1:wr.cell? ⟨g,o+k*6+1,none⟩=some (Zi K):=Zq j Z;have b2:wr.cell? ⟨g,o+k*6+2,none⟩=some (.string S):=Zq j c1;have b3:wr.cell? ⟨g,o+k*6+3,none⟩=some (.slice pn nn cn):=Zq j c2;have b4:wr.cell? ⟨g,o+k*6+4,none⟩=some (.slice pe ne ce):=Zq j c3;have b5:wr.cell? ⟨g,o+k*6+5,none⟩=some (.slice pp np cp):=Zq j c4;have HD:=J3 (paTs_drop ah);have aa:=j.size;obtain⟨z2,ab⟩:∃z,z=JP E 64 h[k].2:=⟨_,rfl⟩
   have V:ZH (∀W,ZB w W->ZC 49 #[.agg #[Zi K,.string S,.slice pn nn cn,.slice pe ne ce,.slice pp np cp],Zi 64] W (.bool z2)):=fun W J=>by
    rw[ab];exact rtyD (TyValD.below J a3) q2 (HT.below J h5) (by have:=J.size;omega)
   rw[<-ab]at HD;obtain⟨s,G⟩:=Ze (h[k].1)
   have an:ZH ((nmF r k).set k (.string ⟨s.toArray⟩)=nmF r (k+1)):=by
    show _=_;have h1:k<r.length:=by have:=J0 u;omega
    rw[G,show h[k].1=r[k]from by simp[J0 ad]];exact nmF_next h1
   have ao:ZH ((nmF r k)[k]?=some (.string ⟨#[]⟩)):=nmF_at (by have:=J0 u;omega);rw[<-G]at b0;have H1:ZH (ZB w (wr.alloc (pBox ⟨s.toArray⟩ ⟨K,S,pn,pe,pp,nn,cn,ne,ce,np,cp⟩))):=j.alloc aa _;have ai:ZH (∀W,Below (wr.alloc (pBox ⟨s.toArray⟩ ⟨K,S,pn,pe,pp,nn,cn,ne,ce,np,cp⟩)).heap.size (wr.alloc (pBox ⟨s.toArray⟩ ⟨K,S,pn,pe,pp,nn,cn,ne,ce,np,cp⟩)) W->W.ownsRow w.heap.size 9 1 (.slice (Zs w.heap.size 0) N N) N (nmF r k)):=fun W J=>zbq I ((Za _ _).trans (J.mono (by simp)))
   clear a0 a2 a3 Z c1 c2 c3 c4 j q1 q2 ab hg G I
   cases z2
   ·go_wp2_with (go_at_call 49;refine(V _ H1).mono ?_;clear V;rintro x w1 ⟨rfl,t⟩);go_ret;exact⟨by rw[J0 HR,J0 Y,J0 HD];rfl,H1.trans (t.mono (by simp;omega))⟩
   ·go_wp2_with (go_at_call 49;refine(V _ H1).mono ?_;clear V;rintro x w2 ⟨rfl,t⟩;obtain⟨d0,d1,d2,d3,d4,d5⟩:=pbox_cells t;have H2:=J3 (H1.trans (t.mono (by simp;omega)));have L:=ai _ t;have az:=t.size;clear t ai;have aA:=L.frozenAt k;have aB:=(L.cellAt k (by omega)).trans ao;obtain⟨ac,aj⟩:=L.stored k (.string ⟨s.toArray⟩);rw[J0 an]at ac;have aC:w.heap.size<w2.heap.size:=(L.lt w.heap.size rfl).2;have H3:=J3 (H2.grown aj H2.size (fun q e=>by cases e;exact Y5 _));have ap:=J3 ac;clear ac aj L);go_roundw
    case rel=>exact⟨k+1,by go_num,by omega,ap,J3 (by rw[J0 Y,J0 HD];rfl),H3⟩
    case measure=>simp[intOf];omega
  ·obtain rfl:k=N:=by omega
   have RN:ZH (ZC 117 #[.slice (Zs w.heap.size 0) k k] wr (.bool (zaj r))):=by
    refine zep _ r wr (Qb (base:=w.heap.size) ?_) (by rw[J0 u];exact hl) (fun s G=>?_) (HT.below j h5) (by have:=j.size;omega)
    ·rw[<-nmF_all,J0 u];exact I
    ·rw[J0 ad]at G;obtain⟨x,hx,rfl⟩:=YF.1 G;exact(HF x hx).1
   have aq:ZH (paTs E h=true):=by show _=_;rw[J0 Y,Yg (by have:=J0 ae;omega)];rfl
   have aa:=j.size;have ar:=J3 j;clear I j;go_wp2_with (go_at_call 117;refine RN.mono ?_;clear RN;rintro x w2 ⟨rfl,au⟩);go_ret;exact⟨by rw[J0 HR,J0 aq];rfl,ar.trans (au.mono aa)⟩
def zjb (E D d m:Nat) (c:Co E D d m):Prop:=
 (zcw c).length<=35184372088832/\(JV c).length<=35184372088832/\(cPs c).length<=1000000/\(∀x∈cPs c,x.1.length<=35184372088832/\za5 E [x.2])/\za5 E [zgv c]/\zen D d m (zaf c)
theorem PaRow.len {W:Zw} {E:Nat} {p:Zo} {n c:Nat} {g:List (Pa E)} (h:PaRow W E (.slice p n c) g):n=g.length:=by
 obtain⟨_,_,e,_⟩:=h;injection e
theorem zbp {A:Int} {O N S:Zy} {K:Int} {pq pn pe pp pb:Zo} {nq cq nn cn ne ce np cp nb cb g:Nat} {w wr:Zw} (j:ZL10 w g (Zi A) (.string O) (.string N) (.slice pq nq cq) (Zi K) (.string S) (.slice pn nn cn) (.slice pe ne ce) (.slice pp np cp) (.slice pb nb cb)) (h:ZB w wr):ZL10 wr g (Zi A) (.string O) (.string N) (.slice pq nq cq) (Zi K) (.string S) (.slice pn nn cn) (.slice pe ne ce) (.slice pp np cp) (.slice pb nb cb):=by
 obtain⟨c,r,s,c3,c4,c5,t,u,x,G⟩:=j;exact⟨(h.cell (p:=⟨g,_,none⟩) (J2 c)).trans c,(h.cell (p:=⟨g,_,none⟩) (J2 c)).trans r,(h.cell (p:=⟨g,_,none⟩) (J2 c)).trans s,(h.cell (p:=⟨g,_,none⟩) (J2 c)).trans c3,(h.cell (p:=⟨g,_,none⟩) (J2 c)).trans c4,(h.cell (p:=⟨g,_,none⟩) (J2 c)).trans c5,(h.cell (p:=⟨g,_,none⟩) (J2 c)).trans t,(h.cell (p:=⟨g,_,none⟩) (J2 c)).trans u,(h.cell (p:=⟨g,_,none⟩) (J2 c)).trans x,(h.cell (p:=⟨g,_,none⟩) (J2 c)).trans G⟩
theorem zdv (E D d m:Nat) (x:C10) (c:Co E D d m) (w:Zw) (hv:CoIs w E D d m x c) (hf:zjb E D d m c) (ht:Tab w) (h5:4<=w.heap.size) :
  ZC 46 #[x.val] w (.bool (JD E D d m c)):=by
 obtain⟨A,O,N,pq,nq,cq,⟨K,S,pn,pe,pp,nn,cn,ne,ce,np,cp⟩,pb,nb,cb⟩:=x;obtain⟨hA,U,V,hq,hT,r⟩:=hv;clear hA;obtain⟨f1,f2,f3,f4,f5,f6⟩:=hf;have Z:=hq.len;dsimp only at U V hq hT r Z;have KV:=J3 hq;have KT:=J3 hT;have KB:=J3 r;have KH:=J3 ht;have KO:=J3 U;have KN:=J3 V;have al:=J3 Z;clear hq hT r ht U V Z;go_enter Tryz.func46,Tryz.ntmps46;go_upto_region 1 with fail
 obtain⟨W0,ac⟩:∃W:Zw,W=w.alloc (Obj.cells #[Zi A,.string O,.string N,.slice pq nq cq,Zi K,.string S,.slice pn nn cn,.slice pe ne ce,.slice pp np cp,.slice pb nb cb] 34):=⟨_,rfl⟩
 obtain⟨g0,af⟩:∃g:Nat,g=w.heap.size:=⟨_,rfl⟩
 rw[<-ac,<-af];have C0:ZH (ZL10 W0 g0 (Zi A) (.string O) (.string N) (.slice pq nq cq) (Zi K) (.string S) (.slice pn nn cn) (.slice pe ne ce) (.slice pp np cp) (.slice pb nb cb)):=by
  rw[ac,af];exact zbr (x:=⟨A,O,N,pq,nq,cq,⟨K,S,pn,pe,pp,nn,cn,ne,ce,np,cp⟩,pb,nb,cb⟩) Zr
 have H0:ZH (ZB w W0):=by rw[ac];exact Za _ _
 clear ac af;have U:=J0 KO;have V:=J0 KN;have Z:=J0 al;have M:∀W,ZB W0 W->ZB w W/\Tab W/\4<=W.heap.size:=fun W h=>by
  have hu:=Zn H0 h;exact⟨hu,KH.below hu h5,by have:=hu.size;omega⟩
 obtain⟨z1,ag⟩:∃z,z=za3 2 (zcw c):=⟨_,rfl⟩
 obtain⟨z2,ah⟩:∃z,z=za3 1 (JV c):=⟨_,rfl⟩
 obtain⟨z3,ai⟩:∃z,z=zgb E (cPs c):=⟨_,rfl⟩
 obtain⟨z4,aj⟩:∃z,z=JP E 64 (zgv c):=⟨_,rfl⟩
 obtain⟨z5,ak⟩:∃z,z=za2 D d m 64 (zaf c):=⟨_,rfl⟩
 obtain⟨eo,aa⟩:∃z,z=(zcw c).isEmpty:=⟨_,rfl⟩
 obtain⟨en,ab⟩:∃z,z=(JV c).isEmpty:=⟨_,rfl⟩
 obtain⟨eq,heq⟩:∃z,z=decide (nq=0):=⟨_,rfl⟩
 have ad:ZH (∀W,ZB W0 W->ZC 73 #[Zi 2,.string O] W (.bool z1)):=fun W h=>by rw[ag,U];exact zcb 2 _ W f1 (M W h).2.1 (M W h).2.2
 have ae:ZH (∀W,ZB W0 W->ZC 73 #[Zi 1,.string N] W (.bool z2)):=fun W h=>by rw[ah,V];exact zcb 1 _ W f2 (M W h).2.1 (M W h).2.2
 have CM:ZH (∀W,ZB W0 W->ZC 62 #[(.agg #[Zi A,.string O,.string N,.slice pq nq cq,Zi K,.string S,.slice pn nn cn,.slice pe ne ce,.slice pp np cp,.slice pb nb cb])] W (.bool (!eo&&!en))):=fun W h=>by rw[aa,ab];exact zdf ⟨A,O,N,pq,nq,cq,⟨K,S,pn,pe,pp,nn,cn,ne,ce,np,cp⟩,pb,nb,cb⟩ _ _ W U V
 have CF:ZH (∀W,ZB W0 W->ZC 63 #[(.agg #[Zi A,.string O,.string N,.slice pq nq cq,Zi K,.string S,.slice pn nn cn,.slice pe ne ce,.slice pp np cp,.slice pb nb cb])] W (.bool (eo&&!en))):=fun W h=>by rw[aa,ab];exact zgk ⟨A,O,N,pq,nq,cq,⟨K,S,pn,pe,pp,nn,cn,ne,ce,np,cp⟩,pb,nb,cb⟩ _ _ W U V
 have CN:ZH (∀W,ZB W0 W->ZC 64 #[(.agg #[Zi A,.string O,.string N,.slice pq nq cq,Zi K,.string S,.slice pn nn cn,.slice pe ne ce,.slice pp np cp,.slice pb nb cb])] W (.bool (eo&&en&&eq))):=fun W h=>by rw[aa,ab,heq];exact isMain_any ⟨A,O,N,pq,nq,cq,⟨K,S,pn,pe,pp,nn,cn,ne,ce,np,cp⟩,pb,nb,cb⟩ _ _ W U V
 have RP:ZH (∀W,ZB W0 W->ZC 74 #[.slice pq nq cq] W (.bool z3)):=fun W h=>by rw[ai];exact zml E _ _ W (KV.below (M W h).1) f3 f4 (M W h).2.1 (M W h).2.2
 have RT:ZH (∀W,ZB W0 W->ZC 49 #[(.agg #[Zi K,.string S,.slice pn nn cn,.slice pe ne ce,.slice pp np cp]),Zi 64] W (.bool z4)):=fun W h=>by rw[aj];exact rtyD (TyValD.below (M W h).1 KT) f5 (M W h).2.1 (M W h).2.2
 have RS:ZH (∀W,ZB W0 W->ZC 54 #[.slice pb nb cb,Zi 64] W (.bool z5)):=fun W h=>by rw[ak];exact zhb D d m _ _ 64 W (StRow.below (M W h).1 m KB) f6 (by omega) (by omega) (M W h).2.1 (M W h).2.2
 have Y:ZH (∀W,ZB W0 W->ZL10 W g0 (Zi A) (.string O) (.string N) (.slice pq nq cq) (Zi K) (.string S) (.slice pn nn cn) (.slice pe ne ce) (.slice pp np cp) (.slice pb nb cb)):=fun W h=>zbp C0 h
 have HR:ZH (JD E D d m c=(!(!eo&&!z1)&&!(!en&&!z2)&&((!eo&&!en)||(eo&&!en)||(eo&&en&&eq))&&z3&&z4&&z5)):=by
  show _=_;rw[ag,ah,ai,aj,ak,aa,ab,heq,Z];rfl
 have j:ZH (ZB W0 W0):=Zr;have s1:=JK U;have s2:=JK V;rw[<-aa]at s1;rw[<-ab]at s2;clear M KO KN al KV KT KB KH f1 f2 f3 f4 f5 f6 ag ah ai aj ak aa ab heq U V Z;obtain⟨s,t,u,c3,c4,c5,G,I,J,L⟩:=J0 C0;rcases s1 with⟨rfl,rfl⟩|⟨q1,rfl⟩
 case' inl=>
  rcases s2 with⟨rfl,rfl⟩|⟨q2,rfl⟩
  case' inl=>
   clear ad ae
   cases eq
   case' true=>
    cases z3
    case' true=>cases z4
  case' inr=>
   clear ad
   cases z2
   case' true=>
    cases z3
    case' true=>cases z4
 case' inr=>
  cases z1
  case' true=>
   rcases s2 with⟨rfl,rfl⟩|⟨q2,rfl⟩
   case' inl=>clear ae
   case' inr=>
    cases z2
    case' true=>
     cases z3
     case' true=>cases z4
 all_goals
  go_wp2_with (first|(go_at_call 73;refine(ad _ j).mono ?_;clear ad;rintro x wa ⟨rfl,r⟩;replace j:=J3 (Zn j r);clear r;clear s t u c3 c4 c5 G I J L;obtain⟨s,t,u,c3,c4,c5,G,I,J,L⟩:=Y _ j)|(go_at_call 73;refine(ae _ j).mono ?_;clear ae;rintro x wb ⟨rfl,r⟩;replace j:=J3 (Zn j r);clear r;clear s t u c3 c4 c5 G I J L;obtain⟨s,t,u,c3,c4,c5,G,I,J,L⟩:=Y _ j)|(go_at_call 62;refine(CM _ j).mono ?_;clear CM;rintro x wc ⟨rfl,r⟩;replace j:=J3 (Zn j r);clear r;clear s t u c3 c4 c5 G I J L;obtain⟨s,t,u,c3,c4,c5,G,I,J,L⟩:=Y _ j)|(go_at_call 63;refine(CF _ j).mono ?_;clear CF;rintro x wd ⟨rfl,r⟩;replace j:=J3 (Zn j r);clear r;clear s t u c3 c4 c5 G I J L;obtain⟨s,t,u,c3,c4,c5,G,I,J,L⟩:=Y _ j)|(go_at_call 64;refine(CN _ j).mono ?_;clear CN;rintro x we ⟨rfl,r⟩;replace j:=J3 (Zn j r);clear r;clear s t u c3 c4 c5 G I J L;obtain⟨s,t,u,c3,c4,c5,G,I,J,L⟩:=Y _ j)|(go_at_call 74;refine(RP _ j).mono ?_;clear RP;rintro x wf ⟨rfl,r⟩;replace j:=J3 (Zn j r);clear r;clear s t u c3 c4 c5 G I J L;obtain⟨s,t,u,c3,c4,c5,G,I,J,L⟩:=Y _ j)|(go_at_call 49;refine(RT _ j).mono ?_;clear RT;rintro x wg ⟨rfl,r⟩;replace j:=J3 (Zn j r);clear r;clear s t u c3 c4 c5 G I J L;obtain⟨s,t,u,c3,c4,c5,G,I,J,L⟩:=Y _ j)|(go_at_call 54;refine(RS _ j).mono ?_;clear RS;rintro x wh ⟨rfl,r⟩;replace j:=J3 (Zn j r);clear r;clear s t u c3 c4 c5 G I J L;obtain⟨s,t,u,c3,c4,c5,G,I,J,L⟩:=Y _ j));go_ret;exact⟨by rw[J0 HR];rfl,Zn H0 j⟩
end Go.Proofs.YtdcbglnhhbmpgaaGreatDoor
