import Derived.Orders
import Derived.StillTail
import Derived.Test.YtdcbglnhhbmpgaaGreatDoorQSynA

namespace Go.Proofs.YtdcbglnhhbmpgaaGreatDoor
open Go Go.RowKit
def ze6 (listed:Array Bool):Nat:=listed.toList.count false
theorem left_set {listed:Array Bool} {i:Nat} (c:i<listed.size) (h:listed.getD i true=false):ze6 (listed.setIfInBounds i true)+1=ze6 listed:=by
 have g:i<listed.toList.length:=by simpa using c
 have j:listed.toList[i]=false:=by
  have:listed[i]=false:=by simpa[Array.getD,c]using h
  simpa using this
 have r:0<listed.toList.count false:=List.count_pos_iff.2 (j ▸ Ys g);rw[ze6,ze6,Array.toList_setIfInBounds,List.count_set g,j];rw[Ye (show(false==false)=true from rfl),Y7 (show ¬(true==false)=true by decide)];omega
theorem ready_none {md:Region.Mode} {ops:Array Oper} {listed:Array Bool} (c:listed.size=ops.size) (h:ze6 listed=0):Region.ready md ops listed=[]:=by
 rw[Region.ready,List.filter_eq_nil_iff];intro i g;have j:i<listed.size:=by rw[c];exact Yy.1 g
 have r:listed[i]=true:=by
  rcases hb:listed[i]with _|_
  ·exfalso;have:0<listed.toList.count false:=List.count_pos_iff.2 (by rw[<-hb];simp);unfold ze6 at h;omega
  ·rfl
 simp[Array.getD,j,r]
theorem zga {P:Program} {md:Region.Mode} {ops:Array Oper} {Q:Exit->Act->Zw->Prop} (I:Array Bool->Act->Zw->Prop) (g:∀listed a w,I listed a w->listed.size=ops.size)
  (step:∀listed a w i,I listed a w->i∈Region.ready md ops listed->wpOp P ops Q i (I (listed.setIfInBounds i true)) a w)
  (fin:∀listed a w,I listed a w->Region.ready md ops listed=[]->Q .normal a w) :
  ∀(fuel:Nat) (listed:Array Bool) (a:Act) (w:Zw),I listed a w->ze6 listed<=fuel->wpAny P md ops Q fuel listed a w
 | 0,listed,a,w,h,j=>by
  have c:=ready_none (md:=md) (g _ _ _ h) (Nat.le_zero.1 j);exact⟨c,fin _ _ _ h c⟩
 | fuel+1,listed,a,w,h,j=>by
  refine⟨fun c=>fin _ _ _ h c,fun i r=>?_⟩;have s:=List.mem_filter.1 r;have t:i<listed.size:=by rw[g _ _ _ h];exact Yy.1 s.1
  have u:listed.getD i true=false:=by
   have:=s.2;simp only[Yc,Bool.not_eq_true']at this;exact this.1
  have:=left_set t u;exact wpOp_mono (fun x w' G=>zga I g step fin fuel _ x w' G (by omega)) (step _ _ _ _ h r)
structure RInv (ops:Array Oper) (a0:Act) (B:Zw->Prop) (V:Nat->Value->Zw->Prop) (listed:Array Bool) (a:Act) (w:Zw):Prop where
 size:listed.size=ops.size
 slots:a.tmps.size=a0.tmps.size
 defers:a.defers=a0.defers
 kept:∀t,(∀(i:Nat) (o:Oper),ops[i]?=some o->o.dst≠some t)->a.tmps.getD t undef=a0.tmps.getD t undef
 base:B w
 done:∀(i:Nat) (o:Oper) (d:Nat),ops[i]?=some o->o.dst=some d->listed.getD i false=true->V i (a.tmps.getD d undef) w
theorem zij {a:Act} {d:Nat} {v:Value} (h:d<a.tmps.size):(a.put (some d) v).tmps.getD d undef=v:=by simp[Act.put,Array.getD,h]
theorem zbx {a:Act} {d t:Nat} {v:Value} (h:t≠d):(a.put (some d) v).tmps.getD t undef=a.tmps.getD t undef:=by
 simp only[Act.put,YQ];rw[YP (Ne.symm h)]
def destB (ops:Array Oper) (n:Nat):Bool:=(List.range ops.size).all fun i=>match (ops[i]?).bind (·.dst)with|none=>false|some d=>decide (d<n)&&(List.range ops.size).all fun j=>decide (j=i)||(ops[j]?).bind (·.dst) != some d
theorem zl4 {ops:Array Oper} {n i:Nat} {o:Oper} (h:destB ops n=true) (s:ops[i]?=some o):∃d,o.dst=some d/\d<n/\∀j g,ops[j]?=some g->g.dst=some d->j=i:=by
 have u:i<ops.size:=(Y8.1 s).1;have c:=Yn.1 h i (Yy.2 u);rw[s]at c;rcases hd:o.dst with _|d
 ·simp[hd]at c
 ·simp only[Option.bind_some,hd,Yc,Xb]at c;refine⟨d,rfl,c.1,fun j g t x=>?_⟩;have r:=Yn.1 c.2 j (Yy.2 (Y8.1 t).1);rw[t]at r;simp[x]at r;exact r
def backB (ops:Array Oper):Bool:=(List.range ops.size).all fun i=>((ops[i]?).map fun o=>o.after.all fun e=>!Region.binds .any e||decide (e.on<i)).getD true
theorem zka {ops:Array Oper} {listed:Array Bool} (h:backB ops=true) (r:listed.size=ops.size) (s:Region.ready .any ops listed=[]):∀i,i<ops.size->listed.getD i false=true:=by
 intro i
 induction i using Nat.strongRecOn with
 | ind i t=>
  intro c;rcases hb:listed.getD i false with _|_
  ·exfalso;have u:i∉Region.ready .any ops listed:=by rw[s];simp
   apply u;rw[Region.ready,List.mem_filter];refine⟨Yy.2 c,?_⟩;have g:=Yn.1 h i (Yy.2 c);have x:ops[i]?=some ops[i]:=by simp[c]
   rw[x]at g ⊢;simp only[X5,YY]at g ⊢;have G:i<listed.size:=by rw[r];exact c
   have I:listed.getD i true=false:=by
    simp only[Array.getD,G,dite_true]at hb ⊢;exact hb
   rw[I];simp only[Bool.not_false,XD];rw[Xh];intro e he;have j:=Xh.1 g e he;rcases hbd:Region.binds .any e with _|_
   ·rfl
   ·rw[hbd]at j;simp only[Bool.not_true,Bool.false_or,Xb]at j;simpa using t e.on j (by omega)
  ·rfl
theorem region_each {P:Program} {id n:Nat} {ops:Array Oper} {Q:Exit->Act->Zw->Prop} {a0:Act} {w:Zw} (hm:P.follows .mixedOrders=true) (hd:destB ops n=true) (hk:backB ops=true) (I:a0.tmps.size=n) (B:Zw->Prop) (V:Nat->Value->Zw->Prop) (hB:B w.drew)
  (sB:∀w w',B w->ZB w w'->B w') (sV:∀i v w w',V i v w->ZB w w'->V i v w')
  (each:∀(i:Nat) (o:Oper) (a:Act) (w:Zw),ops[i]?=some o->a.tmps.size=n->a.defers=a0.defers->(∀t,(∀(i:Nat) (o:Oper),ops[i]?=some o->o.dst≠some t)->a.tmps.getD t undef=a0.tmps.getD t undef)->B w->(∀(j:Nat) (g:Oper) (d:Nat),ops[j]?=some g->g.dst=some d->Region.waitsFor .any ops i j=true->V j (a.tmps.getD d undef) w) ->
   Region.wanted o (yielded ops a.tmps)=true/\o.wp P a w (fun U w'=>∃v,U=a.put o.dst v/\ZB w w'/\V i v w') Q)
  (fin:∀(a:Act) (w:Zw),a.tmps.size=n->a.defers=a0.defers->(∀t,(∀(i:Nat) (o:Oper),ops[i]?=some o->o.dst≠some t)->a.tmps.getD t undef=a0.tmps.getD t undef)->B w->(∀(i:Nat) (o:Oper) (d:Nat),ops[i]?=some o->o.dst=some d->V i (a.tmps.getD d undef) w)->Q .normal a w) :
  (Code.region id ops true).wp P Q a0 w:=by
 refine wp_region_any hm (zga (RInv ops a0 B V) (fun _ _ _ h=>h.size) ?_ ?_ ops.size (Array.replicate ops.size false) a0 _ ⟨by simp,rfl,rfl,fun _ _=>rfl,hB,?_⟩ ?_)
 ·intro listed a u i h hi;have Y:=List.mem_filter.1 hi;have aa:i<ops.size:=Yy.1 Y.1;have c:ops[i]?=some ops[i]:=by simp[aa]
  obtain⟨d,J,e2,e3⟩:=zl4 hd c;have hp:=Y.2;rw[c]at hp;simp only[Yc,X5,YY]at hp;have hw:∀j g r,ops[j]?=some g->g.dst=some r->Region.waitsFor .any ops i j=true->V j (a.tmps.getD r undef) u:=fun j g r s x ab=>by
   obtain⟨oi,Z,e,he,G,rfl⟩:=Region.waitsFor_spec ab;rw[c]at Z;obtain rfl:=Y1 Z;have:=Xh.1 hp.2 e he;rw[G]at this;exact h.done _ g r s x (by simpa using this)
  obtain⟨h1,h2⟩:=each i ops[i] a u c (h.slots.trans I) h.defers h.kept h.base hw;rw[wpOp,c];simp only;rw[Ye h1];refine .inl (Xo ?_ h2);rintro U w' ⟨v,rfl,G,hv⟩;rw[J];refine⟨by simp[h.size],by simp[Act.put,h.slots],by simp[Act.put,h.defers],fun t ht=>?_,sB _ _ h.base G,fun j g r s x L=>?_⟩
  ·rw[zbx (fun e=>ht i _ c (by rw[J,e])),h.kept t ht]
  ·by_cases M:j=i
   ·subst M;rw[c]at s;obtain rfl:=Y1 s;obtain rfl:=Y1 (J.symm.trans x);rw[zij (by rw[h.slots,I];exact e2)];exact hv
   ·have ac:r≠d:=fun e=>M (e3 j g s (e ▸ x))
    rw[zbx ac];refine sV _ _ _ _ (h.done j g r s x ?_) G;rw[<-L];simp only[YQ];rw[YP (Ne.symm M)]
 ·intro listed a u h hr;refine fin a u (h.slots.trans I) h.defers h.kept h.base fun i o d c ad=>h.done i o d c ad (zka hk h.size hr i (Y8.1 c).1)
 ·intro i o d c _ L;simp[Array.getD]at L
 ·simp[ze6]
def EachOp (R:Nat->Oper->Prop):List Oper->Nat->Prop
 | [],_=>True
 | o::r,n=>R n o/\EachOp R r (n+1)
theorem zly {R:Nat->Oper->Prop}:∀(l:List Oper) (n:Nat),EachOp R l n->∀i o,l[i]?=some o->R (n+i) o
 | [],_,_,i,o,h=>by simp at h
 | x::r,n,h,0,o,c=>by
  obtain rfl:x=o:=by simpa using c
  exact h.1
 | x::r,n,h,i+1,o,c=>by
  have:=zly r (n+1) h.2 i o (by simpa using c);rwa[show n+(i+1)=n+1+i by omega]
def noB (ops:Array Oper) (t:Nat):Bool:=ops.all fun o=>o.dst != some t
theorem no_of {ops:Array Oper} {t:Nat} (h:noB ops t=true):∀(i:Nat) (o:Oper),ops[i]?=some o->o.dst≠some t:=fun i o c e=>by
 have:=Xh.1 h o (Array.mem_of_getElem? c);rw[e]at this;simp at this
def OpGoal (P:Program) (ops:Array Oper) (Q:Exit->Act->Zw->Prop) (a0:Act) (n:Nat) (B:Zw->Prop) (V:Nat->Value->Zw->Prop) (i:Nat) (o:Oper):Prop:=
 ∀(a:Act) (w:Zw),a.tmps.size=n->a.defers=a0.defers->(∀t,noB ops t=true->a.tmps.getD t undef=a0.tmps.getD t undef)->B w->(∀j d,(ops[j]?).bind (·.dst)=some d->Region.waitsFor .any ops i j=true->V j (a.tmps.getD d undef) w) ->
  Region.wanted o (yielded ops a.tmps)=true/\o.wp P a w (fun c w'=>∃v,c=a.put o.dst v/\ZB w w'/\V i v w') Q
theorem zlv {P:Program} {id n:Nat} {ops:Array Oper} {Q:Exit->Act->Zw->Prop} {a0:Act} {w:Zw} (hm:P.follows .mixedOrders=true) (hd:destB ops n=true) (M:backB ops=true) (U:a0.tmps.size=n) (B:Zw->Prop) (V:Nat->Value->Zw->Prop) (Y:B w.drew)
  (sB:∀w w',B w->ZB w w'->B w') (Z:∀i v w w',V i v w->ZB w w'->V i v w') (each:EachOp (OpGoal P ops Q a0 n B V) ops.toList 0)
  (fin:∀(a:Act) (w:Zw),a.tmps.size=n->a.defers=a0.defers->(∀t,noB ops t=true->a.tmps.getD t undef=a0.tmps.getD t undef)->B w->(∀j d,(ops[j]?).bind (·.dst)=some d->V j (a.tmps.getD d undef) w)->Q .normal a w) :
  (Code.region id ops true).wp P Q a0 w:=by
 refine region_each hm hd M U B V Y sB Z (fun i o a u ho c g h r s=>?_) (fun a u c g h r s=>?_)
 ·have:=zly _ _ each i o (by simpa using ho);rw[X3]at this;refine this a u c g (fun t x=>h t (no_of x)) r fun j d G hw=>?_
  obtain⟨I,J,L⟩:=X0.1 G;exact s j I d J L hw
 ·refine fin a u c g (fun t x=>h t (no_of x)) r fun j d G=>?_
  obtain⟨I,J,L⟩:=X0.1 G;exact s j I d J L
theorem J1 {o:Oper} {y:Nat->Option Bool} (h:o.guard=none):Region.wanted o y=true:=by simp[Region.wanted,h]
theorem Jg {ops:Array Oper} {o:Oper} {a:Act} {g d:Nat} {b:Bool} (h:o.guard=some (g,b)) (hd:(ops[g]?).bind (·.dst)=some d) (c:d<a.tmps.size) (j:a.tmps.getD d undef=.bool b):Region.wanted o (yielded ops a.tmps)=true:=by
 have r:a.tmps[d]?=some (.bool b):=by
  rw[Array.getElem?_eq_getElem c];simpa[Array.getD,c]using j
 simp[Region.wanted,h,yielded,hd,r]
def JT (f:Nat->Option Value) (i:Nat) (v:Value):Nat->Option Value:=fun j=>if j=i then some v else f j
theorem Jn (f:Nat->Option Value) (i:Nat) (v:Value):JT f i v i=some v:=Ye rfl
theorem J7 (f:Nat->Option Value) {i j:Nat} (v:Value) (h:j≠i):JT f i v j=f j:=Y7 h
structure XInv (ops:Array Oper) (a0:Act) (B:Zw->Prop) (V:Nat->Value->Zw->Prop) (X:(Nat->Option Value)->Zw->Prop) (listed:Array Bool) (a:Act) (w:Zw) (f:Nat->Option Value):Prop where
 size:listed.size=ops.size
 slots:a.tmps.size=a0.tmps.size
 defers:a.defers=a0.defers
 kept:∀t,noB ops t=true->a.tmps.getD t undef=a0.tmps.getD t undef
 base:B w
 yes:∀i d,(ops[i]?).bind (·.dst)=some d->listed.getD i false=true->f i=some (a.tmps.getD d undef)
 no:∀i,listed.getD i false=false->f i=none
 done:∀i v,f i=some v->V i v w
 down:∀i j,Region.waitsFor .any ops i j=true->f i≠none->f j≠none
 more:X f w
def XGoal (P:Program) (ops:Array Oper) (Q:Exit->Act->Zw->Prop) (a0:Act) (n:Nat) (B:Zw->Prop) (V:Nat->Value->Zw->Prop) (X:(Nat->Option Value)->Zw->Prop) (i:Nat) (o:Oper):Prop:=
 ∀(a:Act) (w:Zw) (f:Nat->Option Value),a.tmps.size=n->a.defers=a0.defers->(∀t,noB ops t=true->a.tmps.getD t undef=a0.tmps.getD t undef)->B w->(∀j v,f j=some v->V j v w)->X f w->f i=none->(∀i j,Region.waitsFor .any ops i j=true->f i≠none->f j≠none)->(∀j d,(ops[j]?).bind (·.dst)=some d->Region.waitsFor .any ops i j=true->f j=some (a.tmps.getD d undef)) ->
  Region.wanted o (yielded ops a.tmps)=true/\o.wp P a w (fun c w'=>∃v,c=a.put o.dst v/\B w'/\V i v w'/\(∀j u,f j=some u->V j u w')/\X (JT f i v) w') Q
theorem Qc {P:Program} {ops:Array Oper} {Q:Exit->Act->Zw->Prop} {a0:Act} {n:Nat} {B:Zw->Prop} {V:Nat->Value->Zw->Prop} {X:(Nat->Option Value)->Zw->Prop} {i:Nat} {o:Oper} (sB:∀w w',B w->ZB w w'->B w') (t:∀i v w w',V i v w->ZB w w'->V i v w') (sX:∀f v w w',X f w->ZB w w'->X (JT f i v) w')
  (h:OpGoal P ops Q a0 n B V i o):XGoal P ops Q a0 n B V X i o:=fun a w f x G I r s J _ _ L=>by
 obtain⟨M,U⟩:=h a w x G I r fun j d c hw=>s j _ (L j d c hw)
 refine⟨M,Xo ?_ U⟩;rintro Z w' ⟨v,rfl,g,Y⟩;exact⟨v,rfl,sB _ _ r g,Y,fun j u c=>t _ _ _ _ (s j u c) g,sX f v _ _ J g⟩
theorem back_of {ops:Array Oper} {i:Nat} {o:Oper} (h:backB ops=true) (g:ops[i]?=some o) {e:_} (he:e∈o.after) (r:Region.binds .any e=true):e.on<i:=by
 have c:=Yn.1 h i (Yy.2 (Y8.1 g).1);rw[g]at c;simp only[X5,YY]at c;have j:=Xh.1 c e he;rw[r]at j;simpa using j
theorem region_more {P:Program} {id n:Nat} {ops:Array Oper} {Q:Exit->Act->Zw->Prop} {a0:Act} {w:Zw} (hm:P.follows .mixedOrders=true) (hd:destB ops n=true) (Z:backB ops=true) (J:a0.tmps.size=n) (B:Zw->Prop) (V:Nat->Value->Zw->Prop) (X:(Nat->Option Value)->Zw->Prop) (hB:B w.drew) (hX:X (fun _=>none) w.drew)
  (each:EachOp (XGoal P ops Q a0 n B V X) ops.toList 0)
  (fin:∀(a:Act) (w:Zw),a.tmps.size=n->a.defers=a0.defers->(∀t,noB ops t=true->a.tmps.getD t undef=a0.tmps.getD t undef)->B w->(∀j d,(ops[j]?).bind (·.dst)=some d->V j (a.tmps.getD d undef) w)->Q .normal a w) :
  (Code.region id ops true).wp P Q a0 w:=by
 refine wp_region_any hm (zga (fun listed a w=>∃f,XInv ops a0 B V X listed a w f) (fun _ _ _ ⟨_,h⟩=>h.size) ?_ ?_ ops.size (Array.replicate ops.size false) a0 _ ⟨fun _=>none,by simp,rfl,rfl,fun _ _=>rfl,hB,?_,fun _ _=>rfl,(fun _ _ h=>nomatch h),(fun _ _ _ h=>absurd rfl h),hX⟩ ?_)
 ·rintro listed a u i ⟨f,h⟩ hi;have aa:=List.mem_filter.1 hi;have G:i<ops.size:=Yy.1 aa.1;have s:ops[i]?=some ops[i]:=by simp[G]
  obtain⟨d,L,e2,e3⟩:=zl4 hd s;have hp:=aa.2;rw[s]at hp;simp only[Yc,X5,YY]at hp;have ab:i<listed.size:=by rw[h.size];exact G
  have af:listed.getD i false=false:=by
   have:=hp.1;simp only[Bool.not_eq_true']at this;simp only[Array.getD,ab,dite_true]at this ⊢;exact this
  have hw:∀j r,(ops[j]?).bind (·.dst)=some r->Region.waitsFor .any ops i j=true->f j=some (a.tmps.getD r undef):=fun j r c ag=>by
   obtain⟨oi,I,e,he,M,rfl⟩:=Region.waitsFor_spec ag;rw[s]at I;obtain rfl:=Y1 I;have:=Xh.1 hp.2 e he;rw[M]at this;exact h.yes _ r c (by simpa using this)
  have hg:=zly _ _ each i ops[i] (by simp[G]);rw[X3]at hg;obtain⟨h1,h2⟩:=hg a u f (h.slots.trans J) h.defers h.kept h.base h.done h.more (h.no i af) h.down hw;rw[wpOp,s];simp only;rw[Ye h1];refine .inl (Xo ?_ h2);rintro a' w' ⟨v,rfl,ah,hv,ai,aj⟩;rw[L];refine⟨JT f i v,by simp[h.size],by simp[Act.put,h.slots],by simp[Act.put,h.defers],fun t ht=>?_,ah,fun j r c x=>?_,fun j x=>?_,fun j u c=>?_,fun j m U c=>?_,aj⟩
  ·rw[zbx (fun e=>no_of ht i _ s (by rw[L,e])),h.kept t ht]
  ·by_cases g:j=i
   ·subst g;rw[s]at c;obtain rfl:=Y1 (L.symm.trans c);rw[zij (by rw[h.slots,J];exact e2),Jn]
   ·obtain⟨o',Y,ac⟩:=X0.1 c;have ak:r≠d:=fun e=>g (e3 j o' Y (e ▸ ac))
    rw[zbx ak,J7 _ _ g];refine h.yes j r c ?_;rw[<-x];simp only[YQ];rw[YP (Ne.symm g)]
  ·by_cases g:j=i
   ·subst g;simp[Array.getD,ab]at x
   ·rw[J7 _ _ g];refine h.no j ?_;have he:(listed.setIfInBounds i true).getD j false=listed.getD j false:=by
     simp only[YQ];rw[YP (Ne.symm g)]
    exact he.symm.trans x
  ·by_cases g:j=i
   ·subst g;rw[Jn]at c;obtain rfl:=Y1 c;exact hv
   ·rw[J7 _ _ g]at c;exact ai j u c
  ·by_cases ad:m=i
   ·subst ad;rw[Jn];simp
   ·rw[J7 _ _ ad];by_cases g:j=i
    ·subst g;obtain⟨oi,I,e,he,M,rfl⟩:=Region.waitsFor_spec U;have ae:e.on<ops.size:=Nat.lt_trans (back_of Z I he M) G;obtain⟨d2,k1,_,_⟩:=zl4 hd (show ops[e.on]?=some ops[e.on] by simp[ae]);rw[hw e.on d2 (by simp[ae,k1]) U];simp
    ·rw[J7 _ _ g]at c;exact h.down j m U c
 ·rintro listed a u ⟨f,h⟩ hr;refine fin a u (h.slots.trans J) h.defers h.kept h.base fun j d c=>?_
  obtain⟨o',Y,ac⟩:=X0.1 c;exact h.done j _ (h.yes j d c (zka Z h.size hr j (Y8.1 Y).1))
 ·intro i d _ x;simp[Array.getD]at x
 ·simp[ze6]
section
variable {o:Oper} {a:Act} {w:Zw} {K:Act->Zw->Prop} {Q:Exit->Act->Zw->Prop}
theorem Jp {x:Operand} {v:Value} (c:o.op=.move x) (g:a.eval x=v) (h:K (a.put o.dst v) w):o.wp Tryz.prog a w K Q:=by
 unfold Oper.wp;simp[execOp,c,g];exact h
theorem zhv {x:Operand} {v:Value} (c:o.op=.assign x) (g:a.eval x=v) (h:K (a.put o.dst v) w):o.wp Tryz.prog a w K Q:=by
 unfold Oper.wp;simp[execOp,c,g];exact h
theorem op_pick {c x y:Operand} {b:Bool} {v:Value} (g:o.op=.pick c x y) (j:a.eval c=.bool b) (r:(if b=true then a.eval x else a.eval y)=v) (h:K (a.put o.dst v) w):o.wp Tryz.prog a w K Q:=by
 unfold Oper.wp;simp[execOp,g,j,asBool,r];exact h
theorem op_not {t:TypeId} {x:Operand} {b:Bool} (c:o.op=.unOp .not t x) (g:a.eval x=.bool b) (h:K (a.put o.dst (.bool !b)) w):o.wp Tryz.prog a w K Q:=by
 unfold Oper.wp;simp only[execOp,c,g];simp[go_sem];exact h
theorem zai {f:FuncId} {x:Operand} {t:TypeId} {u:Value} (c:o.op=.call { callee:=.value (.func f),args:=#[x],argTypes:=#[t] }) (g:a.eval x=u) (j:∀args w,Sem.run Tryz.prog (callFunc f args) w=.ok (.enter f args) w) (h:Zg f #[u] w fun e w'=>∃v,e=.returned v/\K (a.put o.dst v) w'):o.wp Tryz.prog a w K Q:=by
 unfold Oper.wp;have he:a.eval (.func f)=.func (.func f) #[] #[]:=rfl;simp[execOp,c,resolve,invoke,g,he,Deferred.ofValue,j];refine h.mono ?_;rintro e w' ⟨v,rfl,r⟩;exact r
theorem zdt {f:FuncId} {x y:Operand} {t s:TypeId} {u v:Value} (c:o.op=.call { callee:=.value (.func f),args:=#[x,y],argTypes:=#[t,s] }) (g:a.eval x=u) (j:a.eval y=v) (r:∀args w,Sem.run Tryz.prog (callFunc f args) w=.ok (.enter f args) w) (h:Zg f #[u,v] w fun e w'=>∃v,e=.returned v/\K (a.put o.dst v) w'):o.wp Tryz.prog a w K Q:=by
 unfold Oper.wp;have he:a.eval (.func f)=.func (.func f) #[] #[]:=rfl;simp[execOp,c,resolve,invoke,g,j,he,Deferred.ofValue,r];refine h.mono ?_;rintro e w' ⟨v,rfl,G⟩;exact G
end
end Go.Proofs.YtdcbglnhhbmpgaaGreatDoor
