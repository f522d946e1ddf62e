import Derived.Test.YtdcbglnhhbmpgaaGreatDoorQTypesPure
import Derived.Test.YtdcbglnhhbmpgaaGreatDoorQToldR
set_option maxHeartbeats 1000000
set_option maxRecDepth 100000
namespace Go.Proofs.YtdcbglnhhbmpgaaGreatDoor
open Go Go.RowKit Lx
theorem level_one (K:Int):1<=zab K:=by
 unfold zab
 repeat' split
 all_goals decide
theorem zhx (K:Int) (tk:List Tok):JM K 1 tk=tk:=by
 have:=level_one K;rw[JM,Y7 (by omega)]
theorem cn_part (K a:Int) (tk:List Tok):cn (JM K a tk)<=cn tk+2:=by
 unfold JM ze9
 split
 ·rw[Jj,Jo,Jj,JJ];omega
 ·omega
theorem cn_aside (tk:List Tok):cn (ze9 tk)=cn tk+2:=by
 unfold ze9;rw[Jj,Jo,Jj,JJ];omega
theorem cn_oper (K:Int):cn (zjy K)<=1:=by
 unfold zjy
 repeat' split
 all_goals first|exact Y5 _|exact Xr _
theorem cn_comma (f:Nat->List Tok) (i:Nat):cn (zar f i)<=1+cn (f i):=by
 unfold zar;rw[Jo]
 split
 ·rw[Jj,JJ];omega
 ·rw[JJ];omega
theorem exT_cnt {K N:Int} {S:Bs} {nm:Nat->Bs} {q:Nat} {Ks:Nat->Int} {tk:Nat->List Tok} {typ:List Tok} {g:Nat->Nat} {G T:Nat} (s:∀i,cn (tk i)<=g i) (r:∀i,i<q->cn (tk i)+3<=g i) (h:∀n,((List.range n).map g).sum<=G) (hT:cn typ<=4*T) :
  cn (exT K N S nm q Ks tk typ)<=6+G+4*T:=by
 have g1:=h 1;have g2:=h 2;simp only[List.range_one,Yf,YG,YM,List.sum_nil,show List.range 2=[0,1]from rfl]at g1 g2;have z0:=s 0;have z1:=s 1;have hp:=fun i a=>cn_part (Ks i) a (tk i)
 have af:cn (zd3 (q-1) (fun k=>JM (Ks (k+1)) 1 (tk (k+1))))+cn (tk 0)+(if 0<q then 3 else 0)<=2+G:=by
  unfold zd3;rw[Jj,Jo,zhj,Jj,JJ];have t:((List.range (q-1)).map fun i=>cn (zar (fun k=>JM (Ks (k+1)) 1 (tk (k+1))) i)).sum<=((List.range (q-1)).map fun i=>g (i+1)).sum:=zew fun i u=>by
   have:=cn_comma (fun k=>JM (Ks (k+1)) 1 (tk (k+1))) i;rw[zhx]at this;have:=r (i+1) (by omega);omega
  rcases X1 q with j|j
  ·subst j;simp at t ⊢;omega
  ·rw[Ye j];have x:=h q;obtain⟨m,rfl⟩:∃m,q=m+1:=⟨q-1,by omega⟩
   rw[List.range_succ_eq_map,Yf,YM,List.map_map]at x;have e3:((List.range m).map (g∘Nat.succ)).sum=((List.range (m+1-1)).map fun i=>g (i+1)).sum:=rfl;have:=r 0 j;omega
 have ag:cn (litT S q nm (fun k=>JM (Ks k) 1 (tk k)))<=3+G:=by
  unfold litT;rw[Jj,Jj,Jo,zhj,Jj,JJ];have t:((List.range q).map fun i=>cn (zar (fun i=>tN (nm i)::tS [58]::(fun k=>JM (Ks k) 1 (tk k)) i) i)).sum<=((List.range q).map g).sum:=zew fun i u=>by
   have:=cn_comma (fun i=>tN (nm i)::tS [58]::(fun k=>JM (Ks k) 1 (tk k)) i) i;have h2:cn ((fun i=>tN (nm i)::tS [58]::(fun k=>JM (Ks k) 1 (tk k)) i) i)=2+cn (tk i):=by
    show cn (tN (nm i)::tS [58]::JM (Ks i) 1 (tk i))=_;rw[Jj,Jj,zhx];omega
   rw[h2]at this;have:=r i u;omega
  have x:=h q;omega
 rw[exT];by_cases I:twoB K=true
 ·rw[Ye I,Jo,Jo];have c:=hp 0 (if K=18∨K=19 then zab K+1 else zab K);have a2:=hp 1 (zab K+1);have a3:=cn_oper K;omega
 rw[Y7 I];by_cases J:K=12
 ·rw[Ye J,Jo,Jj];have c:=hp 0 7;omega
 rw[Y7 J];by_cases L:K=9
 ·rw[Ye L,Jo,Jj,Jj,JJ];have c:=hp 0 7;omega
 rw[Y7 L];by_cases M:K=10
 ·rw[Ye M,Jo,Jj,Jj];have c:=hp 0 7
  split at af <;> omega
 rw[Y7 M];by_cases U:K=11
 ·rw[Ye U,Jo];have c:=hp 0 7;have a2:=cn_aside (tk 0);have a3:cn (if Ks 0=9 then ze9 (tk 0)else JM (Ks 0) 7 (tk 0))<=cn (tk 0)+2:=by split <;> omega
  omega
 rw[Y7 U];by_cases V:K=13
 ·rw[Ye V,Jj];have c:=hp 0 6;omega
 rw[Y7 V];by_cases Y:K=14
 ·rw[Ye Y,Jj];have c:=hp 0 6;omega
 rw[Y7 Y];by_cases Z:K=1
 ·rw[Ye Z,Jj,JJ];omega
 rw[Y7 Z];by_cases k8:K=2
 ·rw[Ye k8,Jj,JJ];omega
 rw[Y7 k8];by_cases k9:K=3
 ·rw[Ye k9,Jj,JJ];omega
 rw[Y7 k9];by_cases aa:K=4
 ·rw[Ye aa,Jj,JJ];omega
 rw[Y7 aa];by_cases ab:K=5
 ·rw[Ye ab,Jj,JJ];omega
 rw[Y7 ab];by_cases ac:K=6
 ·rw[Ye ac,Jj];omega
 rw[Y7 ac];by_cases ad:K=7
 ·rw[Ye ad];omega
 rw[Y7 ad];by_cases ae:K=8
 ·rw[Ye ae,Jj];omega
 rw[Y7 ae,JJ];omega
theorem ex_cnt (D:Nat):∀(d:Nat) (x:Ex D d),cn (zj6 D d x)+3<=9*szX D d x
 | 0,x=>nomatch x
 | d+1,x=>by
  obtain⟨A,K,N,S,c,ns,xs⟩:=x;have j:szX D (d+1) (A,K,N,S,c,ns,xs)=1+S.length+ns.length+zgm ns+szL D c+(xs.map (szX D d)).sum:=rfl;rw[j];have h:=exT_cnt (K:=K) (N:=N) (S:=S) (nm:=fun i=>ns.getD i []) (q:=xs.length) (Ks:=fun i=>(xs[i]?.map (zbv D d)).getD 0) (tk:=fun i=>(xs[i]?.map (zj6 D d)).getD []) (typ:=(c[0]?.map (Jf D false)).getD []) (g:=fun i=>(xs[i]?.map fun u=>9*szX D d u).getD 0) (G:=9*(xs.map (szX D d)).sum) (T:=szL D c) (fun i=>?_) (fun i s=>?_) (fun n=>?_) ?_
  ·exact Yh (Nat.add_le_add_right h 3) (by omega)
  ·rcases e:xs[i]? with _|u
   ·exact Y5 _
   ·have:=ex_cnt D d u;exact(show cn (zj6 D d u)<=9*szX D d u by omega)
  ·have e:xs[i]?=some xs[i]:=by simp
   show cn ((xs[i]?.map (zj6 D d)).getD [])+3<=(xs[i]?.map fun u=>9*szX D d u).getD 0;rw[e];exact ex_cnt D d xs[i]
  ·refine Yh (zfb xs (fun u=>9*szX D d u) n) ?_;clear j
   induction xs with
   | nil=>simp
   | cons x r t=>simp only[Yf,YM];omega
  ·rcases e:c[0]? with _|u
   ·exact Xr _
   ·have I:=zdu D false u;have J:szD D u<=szL D c:=zdk (YK e);exact(show cn (Jf D false u)<=4*szL D c by omega)
def Sh (B:Nat) (c:List Tok):Prop:=∀t∈c,(J5 t).length<=B
section
variable {B:Nat}
theorem zak:Sh B []:=fun _ h=>nomatch h
theorem zja {t:Tok} {b:List Tok} (h:(J5 t).length<=B) (k:Sh B b):Sh B (t::b):=fun u hu=>by
 rcases Xj.1 hu with rfl|hu
 ·exact h
 ·exact k u hu
theorem Jy {a b:List Tok} (h:Sh B a) (k:Sh B b):Sh B (a++b):=fun t g=>by
 rcases YZ.1 g with c|c
 ·exact h t c
 ·exact k t c
theorem zjm {α:Type} {l:List α} {f:α->List Tok} (h:∀a∈l,Sh B (f a)):Sh B (l.flatMap f):=fun t c=>by
 obtain⟨a,g,j⟩:=List.mem_flatMap.1 c;exact h a g t j
theorem sh_opt {α:Type} {l:List α} {i:Nat} {f:α->List Tok} (h:∀a∈l,Sh B (f a)):Sh B ((l[i]?.map f).getD []):=by
 rcases hi:l[i]? with _|a
 ·exact zak
 ·exact h a (YK hi)
theorem zjp {s:Bs} {b:List Tok} (h:s.length<=B) (k:Sh B b):Sh B (tS s::b):=zja (by rw[JC];exact h) k
theorem sh_W {s:Bs} {b:List Tok} (h:s.length<=B) (k:Sh B b):Sh B (tW s::b):=zja (by rw[zap];exact h) k
theorem sh_N {s:Bs} {b:List Tok} (h:s.length<=B) (k:Sh B b):Sh B (tN s::b):=zja (by rw[zdl];exact h) k
theorem sh_T {s:Bs} {b:List Tok} (h:s.length<=B) (k:Sh B b):Sh B (tT s::b):=zja (by rw[show J5 (tT s)=s from by rw[JB (show(2:Int)≠4 by decide) (show(2:Int)≠5 by decide)];rfl];exact h) k
theorem sh_aside {tk:List Tok} (c:25<=B) (h:Sh B tk):Sh B (ze9 tk):=by
 have:1<=B:=by omega
 exact zjp this (Jy h (zjp this zak))
theorem sh_part {K a:Int} {tk:List Tok} (c:25<=B) (h:Sh B tk):Sh B (JM K a tk):=by
 unfold JM;split
 ·exact sh_aside c h
 ·exact h
theorem sh_commas {n:Nat} {f:Nat->List Tok} (c:25<=B) (h:∀i,Sh B (f i)):Sh B ((List.range n).flatMap (zar f)):=zjm fun i _=>by
 have:1<=B:=by omega
 unfold zar;split
 ·exact Jy (zjp this zak) (h i)
 ·exact Jy zak (h i)
theorem sh_args {n:Nat} {f:Nat->List Tok} (c:25<=B) (h:∀i,Sh B (f i)):Sh B (zd3 n f):=by
 have:1<=B:=by omega
 exact zjp this (Jy (sh_commas c h) (zjp this zak))
theorem sh_lit {S:Bs} {n:Nat} {nm:Nat->Bs} {f:Nat->List Tok} (c:25<=B) (g:S.length<=B) (j:∀i,(nm i).length<=B) (h:∀i,Sh B (f i)):Sh B (litT S n nm f):=by
 have:1<=B:=by omega
 exact sh_T g (zjp this (Jy (sh_commas c fun i=>sh_N (j i) (zjp this (h i))) (zjp this zak)))
theorem sh_oper (j:25<=B) (K:Int):Sh B (zjy K):=by
 have g:1<=B:=by omega
 have c:2<=B:=by omega
 have h:3<=B:=by omega
 unfold zjy
 repeat' split
 all_goals first|exact zjp g zak|exact zjp c zak|exact sh_W h zak|exact sh_W c zak|exact zak
theorem zjv {p:Prop} [Decidable p] {a b:List Tok} (c:Sh B a) (g:Sh B b):Sh B (if p then a else b):=by
 by_cases h:p
 ·rw[Ye h];exact c
 ·rw[Y7 h];exact g
theorem escs_le:∀s:Bs,(zh6 s).length<=2*s.length
 | []=>by simp[zh6]
 | c::r=>by
  have g:=escs_le r;have h:=esc1_len c;rw[zbn,Y9,Yk];omega
theorem exT_short {K N:Int} {S:Bs} {nm:Nat->Bs} {q:Nat} {Ks:Nat->Int} {tk:Nat->List Tok} {typ:List Tok} (c:25<=B) (hS:2*S.length+2<=B) (hN:K=1->(J5 (0,4,[],N)).length<=B) (s:∀i,(nm i).length<=B) (t:∀i,Sh B (tk i)) (u:Sh B typ):Sh B (exT K N S nm q Ks tk typ):=by
 have hp:=fun i a=>sh_part (K:=Ks i) (a:=a) c (t i)
 have h:1<=B:=by omega
 have h2:2<=B:=by omega
 have j:3<=B:=by omega
 have x:4<=B:=by omega
 have h5:5<=B:=by omega
 have g:S.length<=B:=by omega
 rw[exT];by_cases G:twoB K=true
 ·rw[Ye G];exact Jy (Jy (hp _ _) (sh_oper c _)) (hp _ _)
 rw[Y7 G];by_cases I:K=12
 ·rw[Ye I];exact Jy (hp _ _) (sh_W h2 u)
 rw[Y7 I];by_cases J:K=9
 ·rw[Ye J];exact Jy (hp _ _) (zjp h (sh_N g zak))
 rw[Y7 J];by_cases L:K=10
 ·rw[Ye L];exact Jy (hp _ _) (zjp h (sh_N g (sh_args c fun i=>hp _ _)))
 rw[Y7 L];by_cases M:K=11
 ·rw[Ye M];exact Jy (zjv (sh_aside c (t 0)) (hp _ _)) (sh_args c fun i=>hp _ _)
 rw[Y7 M];by_cases U:K=13
 ·rw[Ye U];exact zjp h (hp _ _)
 rw[Y7 U];by_cases V:K=14
 ·rw[Ye V];exact sh_W j (hp _ _)
 rw[Y7 V];by_cases r:K=1
 ·rw[Ye r];exact zja (hN r) zak
 rw[Y7 r];by_cases Y:K=2
 ·rw[Ye Y];refine zja ?_ zak;have:=escs_le S;rw[zbl,quote,Yk,Y9,Yk,X8];omega
 rw[Y7 Y];by_cases Z:K=3
 ·rw[Ye Z];by_cases z:N=0
  ·rw[Ye z];exact sh_W h5 zak
  ·rw[Y7 z];exact sh_W x zak
 rw[Y7 Z];by_cases aa:K=4
 ·rw[Ye aa];exact sh_N g zak
 rw[Y7 aa];by_cases ab:K=5
 ·rw[Ye ab];exact sh_W x zak
 rw[Y7 ab];by_cases ac:K=6
 ·rw[Ye ac];exact sh_W j u
 rw[Y7 ac];by_cases ad:K=7
 ·rw[Ye ad];exact sh_lit c g s fun i=>hp _ _
 rw[Y7 ad];by_cases ae:K=8
 ·rw[Ye ae];exact sh_W j (sh_lit c g s fun i=>hp _ _)
 rw[Y7 ae];exact zak
end
theorem zdg {D d:Nat} {x:Ex D (d+1)} (h:∃room,za9 D (d+1) room x=true):zb0 D d x=true/\Ju D 64 (xT x)=true/\∀u∈xPs x,∃room,za9 D d room u=true:=by
 obtain⟨room,h⟩:=h;rw[za9]at h;simp only[Yc]at h;obtain⟨⟨⟨_,j⟩,r⟩,c⟩:=h;refine⟨j,r,fun u hu=>?_⟩;obtain⟨i,g,rfl⟩:=List.getElem_of_mem hu;rw[zlc,Yn]at c;have:=c i (Yy.2 g);rw[Y6 g]at this;exact⟨_,this⟩
theorem zcy {D d:Nat} {x:Ex D (d+1)} (h:zb0 D d x=true):0<=xN x/\xN x<=9223372036854775807/\1<=zfi x/\zfi x<=21:=by
 unfold zb0 at h;generalize zfi x=K at h ⊢;generalize xN x=N at h ⊢;unfold zb8 at h;by_cases k:1<=K/\K<=21
 ·have c:K=1∨K=2∨K=3∨K=4∨K=5∨K=6∨K=7∨K=8∨K=9∨K=10∨K=11∨K=12∨K=13∨K=14∨K=15∨K=16∨K=17∨K=18∨K=19∨K=20∨K=21:=by omega
  rcases c with e|e|e|e|e|e|e|e|e|e|e|e|e|e|e|e|e|e|e|e|e
  all_goals
   subst e;simp only[Int.reduceEq,if_true,if_false,or_self,or_true,true_or,Int.reduceLE,and_self,Yc,Xb]at h;omega
 ·exfalso;rw[Y7 (by omega),Y7 (by omega),Y7 (by omega),Y7 (by omega),Y7 (by omega),Y7 (by omega),Y7 (by omega),Y7 (by omega),Y7 (by omega),Y7 (by omega),Y7 (by omega),Y7 (by omega),Y7 (by omega)]at h
  cases h
theorem zm3 {l:List Tok} {t:Tok} (h:t∈l):(J5 t).length<=(zf4 l).length:=by
 induction l with
 | nil=>cases h
 | cons x r c=>
  rw[zfh];simp only[Yk,Y9];rcases Xj.1 h with rfl|h
  ·omega
  ·have:=c h;omega
theorem ty_short {D Z:Nat} {c:List (Ty D)} (h:szL D c<=Z):Sh (20*Z+25) ((c[0]?.map (Jf D false)).getD []):=sh_opt fun a g t j=>by
 have s:=zm3 j;have r:=zkk D false a;have u:szD D a<=szL D c:=zdk g;unfold fl at r;omega
theorem ex_short (D Z:Nat):∀(d:Nat) (x:Ex D d),(∃room,za9 D d room x=true)->szX D d x<=Z->Sh (20*Z+25) (zj6 D d x)
 | 0,x,_,_=>nomatch x
 | d+1,x,h,hz=>by
  obtain⟨j,_,r⟩:=zdg h;obtain⟨n0,t,_,_⟩:=zcy j;obtain⟨A,K,N,S,c,ns,xs⟩:=x;have I:1+S.length+ns.length+zgm ns+szL D c+(xs.map (szX D d)).sum<=Z:=hz;refine exT_short (by omega) (show 2*S.length+2<=_ by omega) (fun _=>?_) (fun i=>?_) (fun i=>?_) (ty_short (show szL D c<=Z by omega))
  ·obtain⟨u,hu⟩:∃u:Nat,N=(u:Int):=⟨N.toNat,by have:0<=N:=n0;omega⟩
   have J:N<=9223372036854775807:=t;show(J5 (0,4,[],N)).length<=_;rw[hu,zd2,Lib.decDigits_length];have:=Lib.nDigits_le20 u (by omega);omega
  ·have:=zkh (i:=i) (n:=Z) (l:=ns) fun s G=>by have:=sumL_mem G;omega
   exact Yh this (by omega)
  ·refine sh_opt fun a g=>ex_short D Z d a (r a g) ?_
   have:szX D d a<=(xs.map (szX D d)).sum:=zbu (YF.2 ⟨a,g,rfl⟩);omega
theorem snd_aside {tk:List Tok} (h:tk.all sound=true):(ze9 tk).all sound=true:=by
 unfold ze9;rw[YL,XA,h]
 decide +kernel
theorem snd_part {K a:Int} {tk:List Tok} (h:tk.all sound=true):(JM K a tk).all sound=true:=by
 unfold JM;split
 ·exact snd_aside h
 ·exact h
theorem zao {a b:List Tok} (h:a.all sound=true) (k:b.all sound=true):(a++b).all sound=true:=by rw[XA,h,k];rfl
theorem Jv {t:Tok} {b:List Tok} (h:sound t=true) (k:b.all sound=true):(t::b).all sound=true:=by rw[YL,h,k];rfl
theorem snd_commas {n:Nat} {f:Nat->List Tok} (h:∀i,i<n->(f i).all sound=true):((List.range n).flatMap (zar f)).all sound=true:=zgz fun i c=>by
 unfold zar;rw[XA,h i c]
 split <;> decide +kernel
theorem snd_args {n:Nat} {f:Nat->List Tok} (h:∀i,i<n->(f i).all sound=true):(zd3 n f).all sound=true:=
 Jv (by decide +kernel) (zao (snd_commas h) (by decide +kernel))
theorem snd_lit {S:Bs} {n:Nat} {nm:Nat->Bs} {f:Nat->List Tok} (g:sound (tT S)=true) (j:∀i,i<n->sound (tN (nm i))=true) (h:∀i,i<n->(f i).all sound=true):(litT S n nm f).all sound=true:=
 Jv g (Jv (by decide +kernel) (zao (snd_commas fun i c=>Jv (j i c) (Jv (by decide +kernel) (h i c))) (by decide +kernel)))
theorem snd_oper (K:Int):(zjy K).all sound=true:=by
 unfold zjy
 repeat' split
 all_goals first|decide +kernel|rfl
theorem snd_ite {p:Prop} [Decidable p] {a b:List Tok} (c:a.all sound=true) (g:b.all sound=true):(if p then a else b).all sound=true:=by
 by_cases h:p
 ·rw[Ye h];exact c
 ·rw[Y7 h];exact g
theorem exT_sound {K N:Int} {S:Bs} {nm:Nat->Bs} {q:Nat} {Ks:Nat->Int} {tk:Nat->List Tok} {typ:List Tok} (hN:0<=N) (h2:K=2->sound (0,5,S,0)=true) (j:K=4∨K=9∨K=10->sound (tN S)=true) (c:K=7∨K=8->sound (tT S)=true/\∀i,i<q->sound (tN (nm i))=true) (x:∀i,(tk i).all sound=true) (G:typ.all sound=true):(exT K N S nm q Ks tk typ).all sound=true:=by
 have hp:=fun i a=>snd_part (K:=Ks i) (a:=a) (x i)
 rw[exT];by_cases I:twoB K=true
 ·rw[Ye I];exact zao (zao (hp _ _) (snd_oper _)) (hp _ _)
 rw[Y7 I];by_cases J:K=12
 ·rw[Ye J];exact zao (hp _ _) (Jv (by decide +kernel) G)
 rw[Y7 J];by_cases r:K=9
 ·rw[Ye r];exact zao (hp _ _) (Jv (by decide +kernel) (Jv (j (.inr (.inl r))) rfl))
 rw[Y7 r];by_cases s:K=10
 ·rw[Ye s];exact zao (hp _ _) (Jv (by decide +kernel) (Jv (j (.inr (.inr s))) (snd_args fun i _=>hp _ _)))
 rw[Y7 s];by_cases L:K=11
 ·rw[Ye L];exact zao (snd_ite (snd_aside (x 0)) (hp _ _)) (snd_args fun i _=>hp _ _)
 rw[Y7 L];by_cases M:K=13
 ·rw[Ye M];exact Jv (by decide +kernel) (hp _ _)
 rw[Y7 M];by_cases U:K=14
 ·rw[Ye U];exact Jv (by decide +kernel) (hp _ _)
 rw[Y7 U];by_cases V:K=1
 ·rw[Ye V];exact Jv (by simp[sound,hN]) rfl
 rw[Y7 V];by_cases t:K=2
 ·rw[Ye t];exact Jv (h2 t) rfl
 rw[Y7 t];by_cases Y:K=3
 ·rw[Ye Y];by_cases z:N=0
  ·rw[Ye z];decide +kernel
  ·rw[Y7 z];decide +kernel
 rw[Y7 Y];by_cases u:K=4
 ·rw[Ye u];exact Jv (j (.inl u)) rfl
 rw[Y7 u];by_cases Z:K=5
 ·rw[Ye Z]
  decide +kernel
 rw[Y7 Z];by_cases aa:K=6
 ·rw[Ye aa];exact Jv (by decide +kernel) G
 rw[Y7 aa];by_cases g:K=7
 ·rw[Ye g];exact snd_lit (c (.inl g)).1 (c (.inl g)).2 fun i _=>hp _ _
 rw[Y7 g];by_cases h:K=8
 ·rw[Ye h];exact Jv (by decide +kernel) (snd_lit (c (.inr h)).1 (c (.inr h)).2 fun i _=>hp _ _)
 rw[Y7 h]
 rfl
theorem zho {D d:Nat} {A K N:Int} {S:Bs} {c:List (Ty D)} {ns:List Bs} {xs:List (Ex D d)} (h:zb0 D d (A,K,N,S,c,ns,xs)=true) :
  (K=2->za3 5 S=true)/\(K=4∨K=9∨K=10->za3 1 S=true)/\(K=7∨K=8->za3 2 S=true/\ns.length=xs.length/\zaj ns=true)/\(K=6∨K=12->c.length=1)/\(K=9∨K=12∨K=13∨K=14->xs.length=1)/\(K=10∨K=11->1<=xs.length)/\(15<=K->xs.length=2)/\(K=3->N=0∨N=1):=by
 have g:=(zcy h).2.2;have x:1<=K:=g.1;have G:K<=21:=g.2;clear g;have j:zb0 D d (A,K,N,S,c,ns,xs)=(match zb8 K with|none=>false|some (r,s,types,named,least,t)=>decide (0<=N)&&decide (N<=s)&&decide ((c.length:Int)=types)&&decide (least<=(xs.length:Int))&&decide ((xs.length:Int)<=t)&&zji r S&&zd1 named ns xs.length):=rfl;rw[j]at h;clear j;have g:K=1∨K=2∨K=3∨K=4∨K=5∨K=6∨K=7∨K=8∨K=9∨K=10∨K=11∨K=12∨K=13∨K=14∨K=15∨K=16∨K=17∨K=18∨K=19∨K=20∨K=21:=by omega
 generalize xs.length=q at h ⊢;generalize c.length=m at h ⊢;rcases g with e|e|e|e|e|e|e|e|e|e|e|e|e|e|e|e|e|e|e|e|e
 all_goals
  subst e;simp[zb8,zji,zd1]at h;refine⟨?_,?_,?_,?_,?_,?_,?_,?_⟩ <;> first|(intro u;omega)|(intro u;simp_all;done)|(simp;done)|(simp_all;omega)
theorem ex_sound (D:Nat):∀(d:Nat) (x:Ex D d),(∃room,za9 D d room x=true)->(zj6 D d x).all sound=true
 | 0,x,_=>nomatch x
 | d+1,x,s=>by
  obtain⟨h,t,u⟩:=zdg s;obtain⟨n0,_,_,_⟩:=zcy h;obtain⟨A,K,N,S,L,ns,xs⟩:=x;obtain⟨s2,G,j,_⟩:=zho h;refine exT_sound n0 s2 G (fun r=>⟨(j r).1,fun i I=>?_⟩) (fun i=>zey fun a c=>ex_sound D d a (u a c)) (zey fun a c=>ze0 D false a 64 (zeu t a c));obtain⟨_,e,g⟩:=j r;unfold zaj at g;rw[Yc,Yn]at g;have J:i<ns.length:=by rw[e];exact I
  have:=g.1 ns[i] (by simp);show sound (tN (ns.getD i []))=true;rw[Yo,Y6 J];exact this
def exS (D d:Nat) (x:Ex D d):List Bs:=(zj6 D d x).map J5
theorem zlp (D d:Nat) (x:Ex D d):(exS D d x).length+3<=9*szX D d x:=by
 have:=ex_cnt D d x;rw[exS,Xy];exact this
def zfl (hd:List Bs) (ns:List Bs) (c:Nat->List Bs) (k:Nat):List Bs:=hd++(List.range k).flatMap fun i=>(if 0<i then[[44]]else[])++[ns.getD i [],[58]]++c i
theorem zgc (hd:List Bs) (ns:List Bs) (c:Nat->List Bs) (k:Nat):zfl hd ns c (k+1)=zfl hd ns c k++(if 0<k then[[44]]else[])++[ns.getD k [],[58]]++c k:=by
 unfold zfl;rw[YA,YO];simp
theorem litS_le (hd:List Bs) (ns:List Bs) (c:Nat->List Bs) {k n:Nat} (h:k<=n):(zfl hd ns c k).length<=(zfl hd ns c n).length:=by
 induction n with
 | zero=>rw[Nat.le_zero.1 h];exact Y5 _
 | succ n g=>
  rcases Nat.eq_or_lt_of_le h with e|e
  ·rw[e];exact Y5 _
  ·have:=g (by omega);rw[zgc,Y9,Y9,Y9];omega
theorem aside_map (tk:List Tok):(ze9 tk).map J5=zdo (tk.map J5):=by
 unfold ze9 zdo;rw[Yf,Yj,Yf,YG,JC,JC]
 rfl
theorem zcg (K a:Int) (tk:List Tok):(JM K a tk).map J5=zcx K a (tk.map J5):=by
 unfold JM zcx
 split
 ·exact aside_map tk
 ·rfl
theorem zmq (f:Nat->List Tok) (i:Nat):(zar f i).map J5=(if 0<i then[[44]]else[])++(f i).map J5:=by
 unfold zar;rw[Yj]
 split
 ·rw[Yf,YG,JC]
 ·rfl
theorem args_map (n:Nat) (Ks:Nat->Int) (tk:Nat->List Tok):(zd3 n (fun k=>JM (Ks (k+1)) 1 (tk (k+1)))).map J5=zk1 (fun i=>(tk (i+1)).map J5) n++[[41]]:=by
 unfold zd3 zk1;rw[Yf,Yj,Xv,Yf,YG,JC,JC,YD]
 congr 3
 funext i
 rw[zmq,zhx]
theorem lit_map (S:Bs) (n:Nat) (ns:List Bs) (Ks:Nat->Int) (tk:Nat->List Tok):(litT S n (fun i=>ns.getD i []) (fun k=>JM (Ks k) 1 (tk k))).map J5=zfl [S,[123]] ns (fun i=>(tk i).map J5) n++[[125]]:=by
 unfold litT zfl;rw[Yf,Yf,Yj,Xv,Yf,YG,JC,JC,tT_text];show _::_::_=_::_::_
 congr 4
 funext i
 rw[zmq,Yf,Yf,zdl,JC,Xe];show _++_::_::(JM (Ks i) 1 (tk i)).map J5=_;rw[zhx]
 rfl
section
variable {N:Int} {S:Bs} {nm:Nat->Bs} {q:Nat} {Ks:Nat->Int} {tk:Nat->List Tok} {typ:List Tok}
theorem exM_1 (n:Nat):(exT 1 (n:Int) S nm q Ks tk typ).map J5=[Lib.decDigits n]:=by
 show[J5 (0,4,[],(n:Int))]=_;rw[zd2]
theorem exM_2:(exT 2 N S nm q Ks tk typ).map J5=[quote S]:=by
 show[J5 (0,5,S,0)]=_;rw[zbl]
theorem exM_3t:(exT 3 1 S nm q Ks tk typ).map J5=[[116,114,117,101]]:=by
 show[J5 (tW [116,114,117,101])]=_;rw[zap]
theorem exM_3f:(exT 3 0 S nm q Ks tk typ).map J5=[[102,97,108,115,101]]:=by
 show[J5 (tW [102,97,108,115,101])]=_;rw[zap]
theorem exM_4:(exT 4 N S nm q Ks tk typ).map J5=[S]:=by
 show[J5 (tN S)]=_;rw[zdl]
theorem exM_5:(exT 5 N S nm q Ks tk typ).map J5=[[115,101,108,102]]:=by
 show[J5 (tW [115,101,108,102])]=_;rw[zap]
theorem exM_6:(exT 6 N S nm q Ks tk typ).map J5=[110,105,108]::typ.map J5:=by
 show J5 (tW [110,105,108])::typ.map J5=_;rw[zap]
theorem exM_7 {ns:List Bs}:(exT 7 N S (fun i=>ns.getD i []) q Ks tk typ).map J5=zfl [S,[123]] ns (fun i=>(tk i).map J5) q++[[125]]:=lit_map S q ns Ks tk
theorem exM_8 {ns:List Bs}:(exT 8 N S (fun i=>ns.getD i []) q Ks tk typ).map J5=zfl [[110,101,119],S,[123]] ns (fun i=>(tk i).map J5) q++[[125]]:=by
 show J5 (tW [110,101,119])::(litT S q (fun i=>ns.getD i []) (fun k=>JM (Ks k) 1 (tk k))).map J5=_;rw[zap,lit_map]
 rfl
theorem exM_9:(exT 9 N S nm q Ks tk typ).map J5=zcx (Ks 0) 7 ((tk 0).map J5)++[[46],S]:=by
 show(JM (Ks 0) 7 (tk 0)++[tS [46],tN S]).map J5=_;rw[Yj,zcg,Yf,Yf,YG,JC,zdl]
theorem exM_10:(exT 10 N S nm q Ks tk typ).map J5=zcx (Ks 0) 7 ((tk 0).map J5)++[[46],S]++(zk1 (fun i=>(tk (i+1)).map J5) (q-1)++[[41]]):=by
 show(JM (Ks 0) 7 (tk 0)++tS [46]::tN S::zd3 (q-1) (fun k=>JM (Ks (k+1)) 1 (tk (k+1)))).map J5=_;rw[Yj,zcg,Yf,Yf,args_map,JC,zdl,Xe]
 rfl
theorem exM_11:(exT 11 N S nm q Ks tk typ).map J5=(if Ks 0=9 then zdo (zcx (Ks 0) 7 ((tk 0).map J5))else zcx (Ks 0) 7 ((tk 0).map J5))++(zk1 (fun i=>(tk (i+1)).map J5) (q-1)++[[41]]):=by
 show((if Ks 0=9 then ze9 (tk 0)else JM (Ks 0) 7 (tk 0))++zd3 (q-1) (fun k=>JM (Ks (k+1)) 1 (tk (k+1)))).map J5=_;rw[Yj,args_map];by_cases h:Ks 0=9
 ·rw[Ye h,Ye h,aside_map,h,zcx,Y7 (show ¬zab 9<7 by decide)]
 ·rw[Y7 h,Y7 h,zcg]
theorem exM_12:(exT 12 N S nm q Ks tk typ).map J5=zcx (Ks 0) 7 ((tk 0).map J5)++[[116,111]]++typ.map J5:=by
 show(JM (Ks 0) 7 (tk 0)++tW [116,111]::typ).map J5=_;rw[Yj,zcg,Yf,zap,Xe]
 rfl
theorem exM_13:(exT 13 N S nm q Ks tk typ).map J5=[45]::zcx (Ks 0) 6 ((tk 0).map J5):=by
 show J5 (tS [45])::(JM (Ks 0) 6 (tk 0)).map J5=_;rw[zcg,JC]
theorem exM_14:(exT 14 N S nm q Ks tk typ).map J5=[110,111,116]::zcx (Ks 0) 6 ((tk 0).map J5):=by
 show J5 (tW [110,111,116])::(JM (Ks 0) 6 (tk 0)).map J5=_;rw[zcg,zap]
theorem exM_two {K:Int} (c:15<=K) (g:K<=21):(exT K N S nm q Ks tk typ).map J5=zcx (Ks 0) (if K=18∨K=19 then zab K+1 else zab K) ((tk 0).map J5)++[signS K]++zcx (Ks 1) (zab K+1) ((tk 1).map J5):=by
 have h:twoB K=true:=by simp[twoB,c,g]
 rw[exT,Ye h,Yj,Yj,zcg,zcg,sign_text c g]
end
theorem exS_of (D d:Nat) (A K N:Int) (S:Bs) (c:List (Ty D)) (ns:List Bs) (xs:List (Ex D d)):exS D (d+1) (A,K,N,S,c,ns,xs)=(exT K N S (fun i=>ns.getD i []) xs.length (fun i=>(xs[i]?.map (zbv D d)).getD 0) (fun i=>(xs[i]?.map (zj6 D d)).getD []) ((c[0]?.map (Jf D false)).getD [])).map J5:=rfl
theorem asideS_pos (L:List Bs):0<(zdo L).length:=by simp[zdo]
theorem ze2 {K a:Int} {L:List Bs} (h:0<L.length):0<(zcx K a L).length:=by
 unfold zcx;split
 ·exact asideS_pos L
 ·exact h
theorem ziz (K a:Int) (L:List Bs):(zcx K a L).length<=L.length+2:=by
 unfold zcx;split
 ·simp[zdo]
 ·omega
theorem exS_pos {D d:Nat} {x:Ex D (d+1)} (h:zb0 D d x=true):0<(exS D (d+1) x).length:=by
 obtain⟨_,_,g,c⟩:=zcy h;obtain⟨A,K,N,S,t,ns,xs⟩:=x;obtain⟨_,_,_,_,_,_,_,j⟩:=zho h;have n0:0<=N:=(zcy h).1;change 1<=K at g;change K<=21 at c;rw[exS_of];by_cases r:15<=K
 ·rw[exM_two r c,Y9,Y9,Yk];omega
 ·have s:K=1∨K=2∨K=3∨K=4∨K=5∨K=6∨K=7∨K=8∨K=9∨K=10∨K=11∨K=12∨K=13∨K=14:=by omega
  rcases s with e|e|e|e|e|e|e|e|e|e|e|e|e|e
  ·subst e;obtain⟨n,rfl⟩:∃n:Nat,N=(n:Int):=⟨N.toNat,by omega⟩
   rw[exM_1];simp
  ·subst e;rw[exM_2];simp
  ·subst e;rcases j rfl with e|e <;> subst e
   ·rw[exM_3f];simp
   ·rw[exM_3t];simp
  ·subst e;rw[exM_4];simp
  ·subst e;rw[exM_5];simp
  ·subst e;rw[exM_6];simp
  ·subst e;rw[exM_7];simp
  ·subst e;rw[exM_8];simp
  ·subst e;rw[exM_9,Y9,Yk];omega
  ·subst e;rw[exM_10,Y9,Y9,Y9,Yk];omega
  ·subst e;rw[exM_11,Y9,Y9,Yk];omega
  ·subst e;rw[exM_12,Y9,Y9,Yk];omega
  ·subst e;rw[exM_13];simp
  ·subst e;rw[exM_14];simp
theorem zdr:∀{D d:Nat} {x:Ex D d},(∃room,za9 D d room x=true)->0<(exS D d x).length
 | _,0,x,_=>nomatch x
 | _,_+1,_,h=>exS_pos (zdg h).1
theorem exKind_in:∀{D d:Nat} {x:Ex D d},(∃room,za9 D d room x=true)->1<=zbv D d x/\zbv D d x<=21
 | _,0,x,_=>nomatch x
 | _,_+1,_,h=>(zcy (zdg h).1).2.2
theorem EV.at {w:Zw} {D:Nat}:∀{d:Nat} {pp:Zo} {cp:Nat} {xs:List (Ex D d)},ExRow w D d (.slice pp xs.length cp) xs->ExCap w D d (.slice pp xs.length cp) xs->∀(k:Nat) (j:k<xs.length),∃v,ExCell w pp k v/\EV w D d v xs[k]
 | 0,_,_,xs,_,_,k,j=>by
  match xs,j with
  | t::_,_=>exact nomatch t
 | d+1,pp,cp,xs,h,u,k,j=>by
  obtain⟨v,s,x⟩:=ExRow.at h k j;refine⟨v,s,x,?_⟩;obtain⟨g,o,A,K,N,S,pt,pn,G,nt,ct,nn,cn,I,c3,rfl,rfl,a0,Y,a2,a3,a4,a5,J⟩:=s;obtain⟨p,c,e,_,hp⟩:=u;injection e with L Z e3
  subst L;obtain⟨M,U,vp,e,V,r⟩:=hp k xs[k] (by simp);obtain⟨rfl,rfl⟩:g=M/\o=U:=by simpa using e
  obtain rfl:Value.slice G I c3=vp:=Y1 (J.symm.trans V);exact⟨_,_,_,_,_,_,_,rfl,r⟩
theorem cap_le {w:Zw} {D:Nat}:∀{d:Nat} {pp:Zo} {cp:Nat} {xs:List (Ex D d)},ExCap w D d (.slice pp xs.length cp) xs->xs.length<=cp
 | 0,_,_,[],_=>by simp
 | 0,_,_,t::_,_=>nomatch t
 | d+1,pp,cp,xs,h=>by
  obtain⟨p,c,e,g,_⟩:=h;injection e with j r s
  omega
theorem ev_kind {w:Zw} {D:Nat}:∀{d:Nat} {A K N:Int} {S:Zy} {v4 v5 v6:Value} {x:Ex D d},ExValD w D d (.agg #[Zi A,Zi K,Zi N,.string S,v4,v5,v6]) x->K=zbv D d x
 | 0,_,_,_,_,_,_,_,x,_=>nomatch x
 | d+1,_,K,_,_,_,_,_,x,h=>by
  obtain⟨pt,pn,pp,ct,cn,cp,e,_⟩:=h;injection e with e
  have:=congrArg (fun a:Array Value=>a[1]?) e;have c:Zi K=Zi (zfi x):=by simpa using this
  injection c
theorem excell_rest {w:Zw} {g o k:Nat} {u:Value} (h:ExCell w (Zs g o) (k+1) u):ExCell w (Zs g (o+7)) k u:=by
 obtain⟨r,s,A,K,N,S,pt,pn,t,nt,ct,nn,cn,x,c3,e,rfl,a0,c,a2,a3,a4,a5,j⟩:=h;obtain⟨rfl,rfl⟩:g=r/\o=s:=by simpa using e
 have G:o+(k+1)*7=o+7+k*7:=by omega
 rw[G]at a0 c a2 a3 a4 a5 j;exact⟨g,o+7,A,K,N,S,pt,pn,t,nt,ct,nn,cn,x,c3,rfl,rfl,a0,c,a2,a3,a4,a5,j⟩
def vL27 (b k c on g op:Nat) (vn:Value) (s:Zy) (vp vx:Value):List (Option Value):=[none,some (.pointer (Zs b 5)),some (vn),some (Zi (k:Int)),some (.pointer (Zs c (on+k))),some (.string s),none,none,some (.pointer (Zs b 6)),some (vp),some (Zi (k:Int)),some (.pointer (Zs g (op+k*7))),some (vx),none,none,none]
theorem tolds_7 (A N:Int) (S:Bs) (pt pn pp:Zo) (nt n ct cn cp:Nat) (w:Zw) (ns:List Bs) (c:Nat->List Bs) (bb:n=ns.length) (b6:n<=60000) (aA:(zfl [S,[123]] ns c n).length<=300000)
  (bc:SRow w (.slice pn n cn) ns)
  (be:∀k,k<n->∃u,ExCell w pp k u/\0<(c k).length/\∀W,ZB w W->Leaves 116 #[u] W (c k)) :
  zcu A 7 N ⟨S.toArray⟩ pt pn pp nt n n ct cn cp w (zfl [S,[123]] ns c n++[[125]]):=by
 obtain⟨hd,aB⟩:=Ze ([S,[123]]:List Bs)
 rw[<-aB]at aA ⊢;have bE:=J3 aB;obtain⟨L,af⟩:=Ze (zfl hd ns c n++[[125]])
 have aC:=J3 bb;clear bb;rw[<-af];have bf:=J3 af;have aD:=J3 be;have aE:=J3 bc;have bg:=J3 aA;obtain⟨w1,aF⟩:=Ze (w.alloc (zad A 7 N ⟨S.toArray⟩ pt pn pp nt n n ct cn cp))
 have bh:=J3 aF;have aG:ZH (ZB w w1):=by rw[aF];exact al1 _ _
 have ap:ZH (∀W,ZB w1 W->ZL7 W w.heap.size (Zi A) (Zi 7) (Zi N) (.string ⟨S.toArray⟩) (.slice pt nt ct) (.slice pn n cn) (.slice pp n cp)):=fun W h=>Jx (by rw[<-J0 bh];exact h)
 clear af be bc aA aB aF;go_enter Tryz.func116,Tryz.ntmps116;go_upto_region 18 with fail
 go_cut [3] (fun o wx=>∃(J:Value) (U:Zw),J=o/\U=wx/\ZH (U.ownsRow w1.heap.size 9 1 J ([]:List Bs).length (za8 ([]:List Bs)))/\ZH (ZB w1 U))
 case first=>
  go_wp2_with fail;go_meet
  case rel=>exact⟨_,_,rfl,rfl,YU _ _ _ _,(by show Below _ _ _;rw[J0 bh];exact Zr)⟩
 case rest=>
  obtain⟨J,aH,rfl,rfl,bi,aI⟩:=hcut;obtain⟨d0,d1,d2,d3,d4,d5,d6⟩:=ap _ aI;go_upto_region 21 with fail
  go_cut [3] (fun o wx=>∃(J:Value) (U:Zw),J=o/\U=wx/\ZH (U.ownsRow w1.heap.size 9 1 J (hd).length (za8 (hd)))/\ZH (ZB w1 U))
  case first=>
   have aq:=J0 aI;obtain⟨g1,aJ,bF,bj,Y⟩:=Left.appends (base:=w1.heap.size) (v:=J) (ns:=[]) (ms:=[S,[123]]) (w:=aH.alloc (.cells #[.string ⟨S.toArray⟩,.string ⟨#[123]⟩] 9)) (bi.alloc _) (Yh aq.size (al1 aH _).size) (by simp) (by simp) (src2 aH S [123]).1;have bk:=J3 bj;have ah:ZH (bF.ownsRow w1.heap.size 9 1 (.slice (Zs g1 0) (([]:List Bs).length + [S,[123]].length) aJ) hd.length (za8 hd)):=by rw[J0 bE];exact Y.1
   have ai:=J3 ((aq.alloc aq.size _).trans Y.2.1);clear bj Y aq;go_wp2_with (at_builtin;refine J4 rfl (.tmp 55) (.tmp 58) 27 rfl rfl rfl bk ?_;clear bk);go_meet
   case rel=>exact⟨_,_,rfl,rfl,ah,ai⟩
  case rest=>
   obtain⟨J,b7,rfl,rfl,bG,bH⟩:=hcut;clear d0 d1 d2 d3 d4 d5 d6 bi aI;go_wp2_with fail
   go_loopw [3,4] (fun o i wr=>∃(k:Nat) (J:Value),i=Zi k/\J=o/\k<=n/\ZH (wr.ownsRow w1.heap.size 9 1 J (zfl hd ns c k).length (za8 (zfl hd ns c k))/\ZB w1 wr)) (fun _ i _=>n-(intOf i).toNat)
   case atStart=>exact⟨0,_,rfl,rfl,by omega,(by rw[show zfl hd ns c 0=hd from by simp[zfl]];exact bG),bH⟩
   case round=>
    obtain⟨k,J,rfl,rfl,bI,aj⟩:=hrel;obtain⟨aa,V⟩:=J0 aj;have bl:=litS_le hd ns c bI;have bm:=J0 bg;obtain⟨d0,d1,d2,d3,d4,d5,d6⟩:=ap _ V;by_cases aK:k<n
    ·have bJ:(k:Int)<(n:Int):=by omega
     have bn:(k:Int)<(n:Int):=by omega
     have bK:=litS_le hd ns c (show k+1<=n by omega);have aL:=J3 (zgc hd ns c k);have bo:(zfl hd ns c (k+1)).length=(zfl hd ns c k).length+(if 0<k then 1 else 0)+2+(c k).length:=by
      rw[zgc,Y9,Y9,Y9]
      split <;> rfl
     obtain⟨cm,ar⟩:=Ze (if 0<k then[[44]]else[]:List Bs)
     rw[<-ar]at aL;have bL:cm.length<=1:=by rw[ar];split <;> simp
     have aM:=J3 ar;clear ar;have ak:=J3 (show(zfl hd ns c k).length+2+(c k).length<=300000 by split at bo <;> omega);clear bo bl bK bm;go_upto_if 68 with fail
     go_cut [3] (fun o wx=>∃(J:Value) (U:Zw),J=o/\U=wx/\ZH (U.ownsRow w1.heap.size 9 1 J (zfl hd ns c k++cm).length (za8 (zfl hd ns c k++cm)))/\ZH (ZB w1 U))
     case first=>
      obtain⟨bM,bN,rfl,_⟩:=Jh aa;by_cases au:0<k
      ·have bO:0<(k:Int):=by omega
       obtain⟨g1,aJ,bP,E,Y⟩:=Left.append (s:=[44]) aa V.size (by have:=J0 ak;omega);have al:=J3 E;have ah:=J3 Y.1;have ai:=J3 (V.trans Y.2.1);have aN:ZH (cm=[[44]]):=by show _=_;rw[J0 aM,Ye au]
       clear E Y au aj aa V;go_wp2_with (at_builtin;refine J4 rfl (.tmp 69) (.tmp 70) 27 rfl rfl rfl al ?_;clear al);go_meet
       case rel=>exact⟨_,_,rfl,rfl,(by rw[J0 aN];exact J3 (by simpa using J0 ah)),ai⟩
      ·have bO:(k:Int)<=0:=by omega
       have aN:ZH (cm=[]):=by show _=_;rw[J0 aM,Y7 au]
       have ah:=J3 aa;have ai:=J3 V;clear au aj aa V;go_wp2_with fail;go_meet
       case rel=>exact⟨_,_,rfl,rfl,(by rw[J0 aN,X7];exact ah),ai⟩
     case rest=>
      obtain⟨J,U,rfl,rfl,bp,bQ⟩:=hcut;clear aj aa V d0 d1 d2 d3 d4 d5 d6;obtain⟨u,⟨ag,op,aO,aP,aQ,S',aR,aS,aT,aU,aV,aW,aX,aY,c3,rfl,rfl,a0,bq,a2,a3,a4,a5,br⟩,bt,aZ⟩:=aD k aK;obtain⟨b8,b9,bR,bu⟩:=J0 aE;injection bR with bS bT bU
      subst bS;clear bT bU;obtain⟨av,on,rfl,am⟩:=bu k (ns[k]'(by have:=J0 aC;omega)) (by simp);have bv:ns[k]'(by have:=J0 aC;omega)=ns.getD k []:=by rw[Yo,Y6 (by have:=J0 aC;omega)];rfl
      rw[bv]at am;obtain⟨L0,aw⟩:=Ze (zfl hd ns c k++cm)
      have b':L0.length<=300001:=by rw[aw,Y9];have:=J0 ak;omega
      obtain⟨LT,a1⟩:=Ze (c k)
      obtain⟨nm,a6⟩:=Ze (ns.getD k [])
      rw[<-aw,<-a1,<-a6]at aL;rw[<-aw]at bp;rw[<-a1]at aZ bt ak;rw[<-a6]at am;have ca:LT.length<=300000:=by have:=J0 ak;omega
      have bV:=J2 a0;obtain⟨B,ax,bw,sB,a7,a8⟩:=Zx w1
      have ay:∀W,B W->ZB w W:=fun W h=>bon aG (ax W h)
      have a9:∀W,B W->_:=fun W h=>J0 ap W (ax W h)
      have bz:∀W,B W->W.cell? ⟨av,on+k,none⟩=some (.string ⟨nm.toArray⟩):=fun W h=>((ay W h).cell (p:=⟨av,_,none⟩) (J2 am)).trans am
      have ac:∀W,B W->∀i v,w.cell? ⟨ag,i,none⟩=some v->W.cell? ⟨ag,i,none⟩=some v:=fun W h i v e=>((ay W h).cell (p:=⟨ag,_,none⟩) bV).trans e
      have bA:∀W,B W->ZK7 W ag (op+k*7) (Zi aO) (Zi aP) (Zi aQ) (.string S') (.slice aR aU aV) (.slice aS aW aX) (.slice aT aY c3):=fun W h=>⟨ac W h _ _ a0,ac W h _ _ bq,ac W h _ _ a2,ac W h _ _ a3,ac W h _ _ a4,ac W h _ _ a5,ac W h _ _ br⟩
      have bB:∀W,B W->Leaves 116 #[.agg #[Zi aO,Zi aP,Zi aQ,.string S',.slice aR aU aV,.slice aS aW aX,.slice aT aY c3]] W LT:=fun W h=>aZ W (ay W h)
      clear aZ aD aE bu aw a1 a6 am bf bg bv ac a0 bq a2 a3 a4 a5 br aM bL ak;go_wp2_with fail;refine JL (n:=199) Zk Zk Zk rfl B (VP (vL27 w.heap.size k av on ag op (.slice (Zs av on) n cn) ⟨nm.toArray⟩ (.slice (Zs ag op) n cp) (.agg #[Zi aO,Zi aP,Zi aQ,.string S',.slice aR aU aV,.slice aS aW aX,.slice aT aY c3]))) (XCh w1.heap.size 0 15 (some J) L0 [(7,6,[nm,[58]]),(14,13,LT)])
       (bw _ (Jb bQ)) (Qd (fun v bW=>Y1 bW ▸ bp.drew)) ?each ?fin
      case each=>
       refine⟨?_,?_,?_,?_,?_,?_,?_,?_,?_,?_,?_,?_,?_,?_,?_,?_,trivial⟩
       ·refine Qg rfl (by decide) (by simp) rfl rfl rfl (fun f down ab=>?_) (fun G f r aK bX=>?_)
        ·have ae:=J6 down (i:=7) (j:=0) Zk ab;have ad:=J6 down (i:=14) (j:=7) Zk ae;have an:=J6 down (i:=15) (j:=14) Zk ad;exact⟨an,by simp[ae,ad]⟩
        ·exact aK 3 15 Zk bX
       ·exact Yp sB fun G W r I dep=>zae (by decide) rfl (show G.eval (.tmp 1)=Value.pointer (Zs w.heap.size 0)from r 1 Zk) ⟨_,rfl,Zr,rfl⟩
       ·exact Yp sB fun G W r I dep=>zkl rfl (dep 1 73 _ Zk Zk rfl) (a9 W I).2.2.2.2.2.1 ⟨_,rfl,Zr,rfl⟩
       ·exact Yp sB fun G W r I dep=>Jp rfl (show G.eval (.tmp 4)=Zi (k:Int)from r 4 Zk) ⟨_,rfl,Zr,rfl⟩
       ·exact Yp sB fun G W r I dep=>ziq rfl (dep 2 74 _ Zk Zk rfl) (dep 3 75 _ Zk Zk rfl) bn ⟨_,rfl,Zr,rfl⟩
       ·exact Yp sB fun G W r I dep=>zaz rfl (dep 4 76 _ Zk Zk rfl) (bz W I) ⟨_,rfl,Zr,rfl⟩
       ·exact Qf (M:=[nm,[58]]) sB (by decide) (by decide) (by simp) rfl (fun G W hz r I dep=>⟨J1 rfl,zgp (t:=⟨#[58]⟩) rfl (dep 5 77 _ Zk Zk rfl) rfl ⟨_,rfl,al1 _ _,src2 W nm [58]⟩⟩)
       ·refine Qi (q:=0) (s:=6) (Lq:=L0) (M:=[nm,[58]]) a7 a8 (by decide) rfl rfl rfl rfl (by simp) (by simp) (by simp;omega) (by simp) Zk Zk Zk Zk (fun f v down ab Z=>?_);have ad:=J6 down (i:=14) (j:=7) Zk ab;have an:=J6 down (i:=15) (j:=14) Zk ad;exact⟨an,by simp[Js,Jw,Z,ab],by simp[Jk,ab],fun x=>⟨by simp[Js,Jw,JT,Z,ad],by simp[Jk,JT,ad]⟩⟩
       ·exact Yp sB fun G W r I dep=>zae (by decide) rfl (show G.eval (.tmp 1)=Value.pointer (Zs w.heap.size 0)from r 1 Zk) ⟨_,rfl,Zr,rfl⟩
       ·exact Yp sB fun G W r I dep=>zd8 rfl (dep 8 80 _ Zk Zk rfl) (a9 W I).2.2.2.2.2.2 ⟨_,rfl,Zr,rfl⟩
       ·exact Yp sB fun G W r I dep=>Jp rfl (show G.eval (.tmp 4)=Zi (k:Int)from r 4 Zk) ⟨_,rfl,Zr,rfl⟩
       ·exact Yp sB fun G W r I dep=>zcv rfl (dep 9 81 _ Zk Zk rfl) (dep 10 82 _ Zk Zk rfl) bn ⟨_,rfl,Zr,rfl⟩
       ·exact Yp sB fun G W r I dep=>zdw rfl (dep 11 83 _ Zk Zk rfl) (bA W I) ⟨_,rfl,Zr,rfl⟩
       ·exact Qf (M:=LT) sB (by decide) (by decide) (by simp) rfl (fun G W hz r I dep=>⟨J1 rfl,zai rfl (dep 12 84 _ Zk Zk rfl) told_enter ((bB W I).mono fun e w' ⟨⟨u,he,bC⟩,V⟩=>⟨u,he,u,rfl,V,Qb bC,fun g bY=>bC.lt g bY⟩)⟩)
       ·refine Qi (q:=7) (s:=13) (Lq:=(L0++[nm,[58]])) (M:=LT) a7 a8 (by decide) rfl rfl rfl rfl (by simp) bt (by simp;omega) (by simp) Zk Zk Zk Zk (fun f v down ab Z=>?_);obtain⟨v0,az⟩:=Y4.1 (down 7 0 Zk (by rw[Z];simp));have an:=J6 down (i:=15) (j:=14) Zk ab;exact⟨an,by simp[Js,Jw,az,Z,ab],by simp[Jk,Z,ab],fun x=>⟨by simp[Js,Jw,JT,az,Z],by simp[Jk,JT,Z]⟩⟩
       ·refine Qj (q:=14) (by decide) (by simp) rfl rfl rfl Zk Zk (fun f v down Z=>?_);obtain⟨cb,ae⟩:=Y4.1 (down 14 7 Zk (by rw[Z];simp));obtain⟨v0,az⟩:=Y4.1 (down 7 0 Zk (by rw[ae];simp));simp[Js,Jw,Z,az,ae]
      case fin=>
       intro G W f hz bZ r I ao b1 a';have bD:(∃v,f 0=some v)/\(∃v,f 7=some v)/\(∃v,f 14=some v):=⟨⟨_,ao 0 72 Zk⟩,⟨_,ao 7 79 Zk⟩,⟨_,ao 14 86 Zk⟩⟩
       have af:Jk f L0 [(7,6,[nm,[58]]),(14,13,LT)]=(L0++[nm,[58]]++LT):=by
        obtain⟨⟨_,_⟩,⟨_,ae⟩,⟨_,ad⟩⟩:=bD;simp[Jk,ae,ad]
       obtain⟨ba,_⟩:=a'.2.2 _ (a'.1 _ (ao 15 3 Zk));rw[af]at ba;have b2:=J3 (ax W I);rw[JZ hz rfl bZ r];clear ao b1 a' r bD af a9 bz bA bB sB a7 a8 ay ax bw;generalize b3:G.tmps.getD 3 undef=v3 at ba;simp only[List.foldl,Option.getD];rw[b3];go_wp2;go_roundw
       case rel=>exact⟨k+1,_,by go_num,rfl,by omega,(by rw[J0 aL];exact ba),b2⟩
       case measure=>simp[intOf];omega
    ·obtain rfl:k=n:=by omega
     have bJ:¬(k:Int)<(k:Int):=by omega
     obtain⟨g1,aJ,bP,E,Y⟩:=Left.append (s:=[125]) aa V.size (by omega);have al:=J3 E;have b4:=J3 (Y.1.mono aG.size);have b5:=J3 (bon aG (V.trans Y.2.1));clear E ap bl bm aj aD aE Y V;obtain⟨bM,bN,rfl,_⟩:=Jh aa;clear aa;go_wp2_with (at_builtin;refine J4 rfl (.tmp 87) (.tmp 88) 27 rfl rfl rfl al ?_;clear al);go_ret;exact⟨⟨_,rfl,by rw[J0 bf];simpa using J0 b4⟩,b5⟩
theorem tolds_8 (A N:Int) (S:Bs) (pt pn pp:Zo) (nt n ct cn cp:Nat) (w:Zw) (ns:List Bs) (r:Nat->List Bs) (bc:n=ns.length) (b6:n<=60000) (aE:(zfl [[110,101,119],S,[123]] ns r n).length<=300000)
  (be:SRow w (.slice pn n cn) ns)
  (bf:∀k,k<n->∃u,ExCell w pp k u/\0<(r k).length/\∀W,ZB w W->Leaves 116 #[u] W (r k)) :
  zcu A 8 N ⟨S.toArray⟩ pt pn pp nt n n ct cn cp w (zfl [[110,101,119],S,[123]] ns r n++[[125]]):=by
 obtain⟨hd,aF⟩:=Ze ([[110,101,119],S,[123]]:List Bs)
 rw[<-aF]at aE ⊢;have bF:=J3 aF;obtain⟨L,aj⟩:=Ze (zfl hd ns r n++[[125]])
 have aG:=J3 bc;clear bc;rw[<-aj];have bg:=J3 aj;have aH:=J3 bf;have aI:=J3 be;have bh:=J3 aE;obtain⟨w1,aJ⟩:=Ze (w.alloc (zad A 8 N ⟨S.toArray⟩ pt pn pp nt n n ct cn cp))
 have bi:=J3 aJ;have aK:ZH (ZB w w1):=by rw[aJ];exact al1 _ _
 have al:ZH (∀W,ZB w1 W->ZL7 W w.heap.size (Zi A) (Zi 8) (Zi N) (.string ⟨S.toArray⟩) (.slice pt nt ct) (.slice pn n cn) (.slice pp n cp)):=fun W h=>Jx (by rw[<-J0 bi];exact h)
 clear aj bf be aE aF aJ;go_enter Tryz.func116,Tryz.ntmps116;go_upto_region 18 with fail
 go_cut [3] (fun o wx=>∃(c:Value) (U:Zw),c=o/\U=wx/\ZH (U.ownsRow w1.heap.size 9 1 c ([]:List Bs).length (za8 ([]:List Bs)))/\ZH (ZB w1 U))
 case first=>
  go_wp2_with fail;go_meet
  case rel=>exact⟨_,_,rfl,rfl,YU _ _ _ _,(by show Below _ _ _;rw[J0 bi];exact Zr)⟩
 case rest=>
  obtain⟨c,au,rfl,rfl,am,ac⟩:=hcut;obtain⟨d0,d1,d2,d3,d4,d5,d6⟩:=al _ ac;go_upto_if 51 with fail
  go_cut [3] (fun o wx=>∃(c:Value) (U:Zw),c=o/\U=wx/\ZH (U.ownsRow w1.heap.size 9 1 c ([[110,101,119]]:List Bs).length (za8 ([[110,101,119]]:List Bs)))/\ZH (ZB w1 U))
  case first=>
   obtain⟨g1,av,bj,E,V⟩:=Left.append (s:=[110,101,119]) am ac.size (by simp);have ad:=J3 E;have ag:=J3 V.1;have ah:=J3 (ac.trans V.2.1);clear E V;go_wp2_with (at_builtin;refine J4 rfl (.tmp 52) (.tmp 53) 27 rfl rfl rfl ad ?_;clear ad);go_meet
   case rel=>exact⟨_,_,rfl,rfl,ag,ah⟩
  case rest=>
  clear am ac d0 d1 d2 d3 d4 d5 d6;obtain⟨c,au,rfl,rfl,am,ac⟩:=hcut;obtain⟨d0,d1,d2,d3,d4,d5,d6⟩:=al _ ac;go_upto_region 21 with fail
  go_cut [3] (fun o wx=>∃(c:Value) (U:Zw),c=o/\U=wx/\ZH (U.ownsRow w1.heap.size 9 1 c (hd).length (za8 (hd)))/\ZH (ZB w1 U))
  case first=>
   have aw:=J0 ac;obtain⟨g1,av,bG,bk,V⟩:=Left.appends (base:=w1.heap.size) (v:=c) (ns:=[[110,101,119]]) (ms:=[S,[123]]) (w:=au.alloc (.cells #[.string ⟨S.toArray⟩,.string ⟨#[123]⟩] 9)) (am.alloc _) (Yh aw.size (al1 au _).size) (by simp) (by simp) (src2 au S [123]).1;have bl:=J3 bk;have ag:ZH (bG.ownsRow w1.heap.size 9 1 (.slice (Zs g1 0) (([[110,101,119]]:List Bs).length + [S,[123]].length) av) hd.length (za8 hd)):=by rw[J0 bF];exact V.1
   have ah:=J3 ((aw.alloc aw.size _).trans V.2.1);clear bk V aw;go_wp2_with (at_builtin;refine J4 rfl (.tmp 55) (.tmp 58) 27 rfl rfl rfl bl ?_;clear bl);go_meet
   case rel=>exact⟨_,_,rfl,rfl,ag,ah⟩
  case rest=>
   obtain⟨c,b7,rfl,rfl,bH,bI⟩:=hcut;clear d0 d1 d2 d3 d4 d5 d6 am ac;go_wp2_with fail
   go_loopw [3,4] (fun o i wr=>∃(k:Nat) (c:Value),i=Zi k/\c=o/\k<=n/\ZH (wr.ownsRow w1.heap.size 9 1 c (zfl hd ns r k).length (za8 (zfl hd ns r k))/\ZB w1 wr)) (fun _ i _=>n-(intOf i).toNat)
   case atStart=>exact⟨0,_,rfl,rfl,by omega,(by rw[show zfl hd ns r 0=hd from by simp[zfl]];exact bH),bI⟩
   case round=>
    obtain⟨k,c,rfl,rfl,bJ,an⟩:=hrel;obtain⟨aa,Y⟩:=J0 an;have bm:=litS_le hd ns r bJ;have bn:=J0 bh;obtain⟨d0,d1,d2,d3,d4,d5,d6⟩:=al _ Y;by_cases aL:k<n
    ·have bK:(k:Int)<(n:Int):=by omega
     have bo:(k:Int)<(n:Int):=by omega
     have bL:=litS_le hd ns r (show k+1<=n by omega);have aM:=J3 (zgc hd ns r k);have bp:(zfl hd ns r (k+1)).length=(zfl hd ns r k).length+(if 0<k then 1 else 0)+2+(r k).length:=by
      rw[zgc,Y9,Y9,Y9]
      split <;> rfl
     obtain⟨cm,ax⟩:=Ze (if 0<k then[[44]]else[]:List Bs)
     rw[<-ax]at aM;have bM:cm.length<=1:=by rw[ax];split <;> simp
     have aN:=J3 ax;clear ax;have ao:=J3 (show(zfl hd ns r k).length+2+(r k).length<=300000 by split at bp <;> omega);clear bp bm bL bn;go_upto_if 68 with fail
     go_cut [3] (fun o wx=>∃(c:Value) (U:Zw),c=o/\U=wx/\ZH (U.ownsRow w1.heap.size 9 1 c (zfl hd ns r k++cm).length (za8 (zfl hd ns r k++cm)))/\ZH (ZB w1 U))
     case first=>
      obtain⟨bN,bO,rfl,_⟩:=Jh aa;by_cases ay:0<k
      ·have bP:0<(k:Int):=by omega
       obtain⟨g1,av,bj,E,V⟩:=Left.append (s:=[44]) aa Y.size (by have:=J0 ao;omega);have ad:=J3 E;have ag:=J3 V.1;have ah:=J3 (Y.trans V.2.1);have aO:ZH (cm=[[44]]):=by show _=_;rw[J0 aN,Ye ay]
       clear E V ay an aa Y;go_wp2_with (at_builtin;refine J4 rfl (.tmp 69) (.tmp 70) 27 rfl rfl rfl ad ?_;clear ad);go_meet
       case rel=>exact⟨_,_,rfl,rfl,(by rw[J0 aO];exact J3 (by simpa using J0 ag)),ah⟩
      ·have bP:(k:Int)<=0:=by omega
       have aO:ZH (cm=[]):=by show _=_;rw[J0 aN,Y7 ay]
       have ag:=J3 aa;have ah:=J3 Y;clear ay an aa Y;go_wp2_with fail;go_meet
       case rel=>exact⟨_,_,rfl,rfl,(by rw[J0 aO,X7];exact ag),ah⟩
     case rest=>
      obtain⟨c,U,rfl,rfl,bq,bQ⟩:=hcut;clear an aa Y d0 d1 d2 d3 d4 d5 d6;obtain⟨u,⟨ak,op,aP,aQ,aR,S',aS,aT,aU,aV,aW,aX,aY,aZ,c3,rfl,rfl,a0,br,a2,a3,a4,a5,bt⟩,bu,a1⟩:=aH k aL;obtain⟨b8,b9,bR,bv⟩:=J0 aI;injection bR with bS bT bU
      subst bS;clear bT bU;obtain⟨az,on,rfl,ap⟩:=bv k (ns[k]'(by have:=J0 aG;omega)) (by simp);have bw:ns[k]'(by have:=J0 aG;omega)=ns.getD k []:=by rw[Yo,Y6 (by have:=J0 aG;omega)];rfl
      rw[bw]at ap;obtain⟨L0,aA⟩:=Ze (zfl hd ns r k++cm)
      have b':L0.length<=300001:=by rw[aA,Y9];have:=J0 ao;omega
      obtain⟨LT,a6⟩:=Ze (r k)
      obtain⟨nm,a7⟩:=Ze (ns.getD k [])
      rw[<-aA,<-a6,<-a7]at aM;rw[<-aA]at bq;rw[<-a6]at a1 bu ao;rw[<-a7]at ap;have ca:LT.length<=300000:=by have:=J0 ao;omega
      have bV:=J2 a0;obtain⟨B,aB,bz,sB,a8,a9⟩:=Zx w1
      have aC:∀W,B W->ZB w W:=fun W h=>bon aK (aB W h)
      have a':∀W,B W->_:=fun W h=>J0 al W (aB W h)
      have bA:∀W,B W->W.cell? ⟨az,on+k,none⟩=some (.string ⟨nm.toArray⟩):=fun W h=>((aC W h).cell (p:=⟨az,_,none⟩) (J2 ap)).trans ap
      have ae:∀W,B W->∀i v,w.cell? ⟨ak,i,none⟩=some v->W.cell? ⟨ak,i,none⟩=some v:=fun W h i v e=>((aC W h).cell (p:=⟨ak,_,none⟩) bV).trans e
      have bB:∀W,B W->ZK7 W ak (op+k*7) (Zi aP) (Zi aQ) (Zi aR) (.string S') (.slice aS aV aW) (.slice aT aX aY) (.slice aU aZ c3):=fun W h=>⟨ae W h _ _ a0,ae W h _ _ br,ae W h _ _ a2,ae W h _ _ a3,ae W h _ _ a4,ae W h _ _ a5,ae W h _ _ bt⟩
      have bC:∀W,B W->Leaves 116 #[.agg #[Zi aP,Zi aQ,Zi aR,.string S',.slice aS aV aW,.slice aT aX aY,.slice aU aZ c3]] W LT:=fun W h=>a1 W (aC W h)
      clear a1 aH aI bv aA a6 a7 ap bg bh bw ae a0 br a2 a3 a4 a5 bt aN bM ao;go_wp2_with fail;refine JL (n:=199) Zk Zk Zk rfl B (VP (vL27 w.heap.size k az on ak op (.slice (Zs az on) n cn) ⟨nm.toArray⟩ (.slice (Zs ak op) n cp) (.agg #[Zi aP,Zi aQ,Zi aR,.string S',.slice aS aV aW,.slice aT aX aY,.slice aU aZ c3]))) (XCh w1.heap.size 0 15 (some c) L0 [(7,6,[nm,[58]]),(14,13,LT)])
       (bz _ (Jb bQ)) (Qd (fun v bW=>Y1 bW ▸ bq.drew)) ?each ?fin
      case each=>
       refine⟨?_,?_,?_,?_,?_,?_,?_,?_,?_,?_,?_,?_,?_,?_,?_,?_,trivial⟩
       ·refine Qg rfl (by decide) (by simp) rfl rfl rfl (fun f down ab=>?_) (fun I f G aL bX=>?_)
        ·have ai:=J6 down (i:=7) (j:=0) Zk ab;have af:=J6 down (i:=14) (j:=7) Zk ai;have aq:=J6 down (i:=15) (j:=14) Zk af;exact⟨aq,by simp[ai,af]⟩
        ·exact aL 3 15 Zk bX
       ·exact Yp sB fun I W G J dep=>zae (by decide) rfl (show I.eval (.tmp 1)=Value.pointer (Zs w.heap.size 0)from G 1 Zk) ⟨_,rfl,Zr,rfl⟩
       ·exact Yp sB fun I W G J dep=>zkl rfl (dep 1 73 _ Zk Zk rfl) (a' W J).2.2.2.2.2.1 ⟨_,rfl,Zr,rfl⟩
       ·exact Yp sB fun I W G J dep=>Jp rfl (show I.eval (.tmp 4)=Zi (k:Int)from G 4 Zk) ⟨_,rfl,Zr,rfl⟩
       ·exact Yp sB fun I W G J dep=>ziq rfl (dep 2 74 _ Zk Zk rfl) (dep 3 75 _ Zk Zk rfl) bo ⟨_,rfl,Zr,rfl⟩
       ·exact Yp sB fun I W G J dep=>zaz rfl (dep 4 76 _ Zk Zk rfl) (bA W J) ⟨_,rfl,Zr,rfl⟩
       ·exact Qf (M:=[nm,[58]]) sB (by decide) (by decide) (by simp) rfl (fun I W hz G J dep=>⟨J1 rfl,zgp (t:=⟨#[58]⟩) rfl (dep 5 77 _ Zk Zk rfl) rfl ⟨_,rfl,al1 _ _,src2 W nm [58]⟩⟩)
       ·refine Qi (q:=0) (s:=6) (Lq:=L0) (M:=[nm,[58]]) a8 a9 (by decide) rfl rfl rfl rfl (by simp) (by simp) (by simp;omega) (by simp) Zk Zk Zk Zk (fun f v down ab Z=>?_);have af:=J6 down (i:=14) (j:=7) Zk ab;have aq:=J6 down (i:=15) (j:=14) Zk af;exact⟨aq,by simp[Js,Jw,Z,ab],by simp[Jk,ab],fun x=>⟨by simp[Js,Jw,JT,Z,af],by simp[Jk,JT,af]⟩⟩
       ·exact Yp sB fun I W G J dep=>zae (by decide) rfl (show I.eval (.tmp 1)=Value.pointer (Zs w.heap.size 0)from G 1 Zk) ⟨_,rfl,Zr,rfl⟩
       ·exact Yp sB fun I W G J dep=>zd8 rfl (dep 8 80 _ Zk Zk rfl) (a' W J).2.2.2.2.2.2 ⟨_,rfl,Zr,rfl⟩
       ·exact Yp sB fun I W G J dep=>Jp rfl (show I.eval (.tmp 4)=Zi (k:Int)from G 4 Zk) ⟨_,rfl,Zr,rfl⟩
       ·exact Yp sB fun I W G J dep=>zcv rfl (dep 9 81 _ Zk Zk rfl) (dep 10 82 _ Zk Zk rfl) bo ⟨_,rfl,Zr,rfl⟩
       ·exact Yp sB fun I W G J dep=>zdw rfl (dep 11 83 _ Zk Zk rfl) (bB W J) ⟨_,rfl,Zr,rfl⟩
       ·exact Qf (M:=LT) sB (by decide) (by decide) (by simp) rfl (fun I W hz G J dep=>⟨J1 rfl,zai rfl (dep 12 84 _ Zk Zk rfl) told_enter ((bC W J).mono fun e w' ⟨⟨u,he,bD⟩,Y⟩=>⟨u,he,u,rfl,Y,Qb bD,fun g bY=>bD.lt g bY⟩)⟩)
       ·refine Qi (q:=7) (s:=13) (Lq:=(L0++[nm,[58]])) (M:=LT) a8 a9 (by decide) rfl rfl rfl rfl (by simp) bu (by simp;omega) (by simp) Zk Zk Zk Zk (fun f v down ab Z=>?_);obtain⟨v0,aD⟩:=Y4.1 (down 7 0 Zk (by rw[Z];simp));have aq:=J6 down (i:=15) (j:=14) Zk ab;exact⟨aq,by simp[Js,Jw,aD,Z,ab],by simp[Jk,Z,ab],fun x=>⟨by simp[Js,Jw,JT,aD,Z],by simp[Jk,JT,Z]⟩⟩
       ·refine Qj (q:=14) (by decide) (by simp) rfl rfl rfl Zk Zk (fun f v down Z=>?_);obtain⟨cb,ai⟩:=Y4.1 (down 14 7 Zk (by rw[Z];simp));obtain⟨v0,aD⟩:=Y4.1 (down 7 0 Zk (by rw[ai];simp));simp[Js,Jw,Z,aD,ai]
      case fin=>
       intro I W f hz bZ G J ar b1 ba;have bE:(∃v,f 0=some v)/\(∃v,f 7=some v)/\(∃v,f 14=some v):=⟨⟨_,ar 0 72 Zk⟩,⟨_,ar 7 79 Zk⟩,⟨_,ar 14 86 Zk⟩⟩
       have aj:Jk f L0 [(7,6,[nm,[58]]),(14,13,LT)]=(L0++[nm,[58]]++LT):=by
        obtain⟨⟨_,_⟩,⟨_,ai⟩,⟨_,af⟩⟩:=bE;simp[Jk,ai,af]
       obtain⟨bb,_⟩:=ba.2.2 _ (ba.1 _ (ar 15 3 Zk));rw[aj]at bb;have b2:=J3 (aB W J);rw[JZ hz rfl bZ G];clear ar b1 ba G bE aj a' bA bB bC sB a8 a9 aC aB bz;generalize b3:I.tmps.getD 3 undef=v3 at bb;simp only[List.foldl,Option.getD];rw[b3];go_wp2;go_roundw
       case rel=>exact⟨k+1,_,by go_num,rfl,by omega,(by rw[J0 aM];exact bb),b2⟩
       case measure=>simp[intOf];omega
    ·obtain rfl:k=n:=by omega
     have bK:¬(k:Int)<(k:Int):=by omega
     obtain⟨g1,av,bj,E,V⟩:=Left.append (s:=[125]) aa Y.size (by omega);have ad:=J3 E;have b4:=J3 (V.1.mono aK.size);have b5:=J3 (bon aK (Y.trans V.2.1));clear E al bm bn an aH aI V Y;obtain⟨bN,bO,rfl,_⟩:=Jh aa;clear aa;go_wp2_with (at_builtin;refine J4 rfl (.tmp 87) (.tmp 88) 27 rfl rfl rfl ad ?_;clear ad);go_ret;exact⟨⟨_,rfl,by rw[J0 bg];simpa using J0 b4⟩,b5⟩
def ToldAt (D d:Nat):Prop:=∀(x:Ex D d) (v:Value) (w:Zw),EV w D d v x->(∃room,za9 D d room x=true)->szX D d x<=30000->Leaves 116 #[v] w (exS D d x)
theorem zle {D d:Nat} (r:ToldAt D d) {x:Ex D d} {w:Zw} {A K N:Int} {S:Zy} {pt pn pp:Zo} {nt nn np ct cn cp:Nat} (g:EV w D d (.agg #[Zi A,Zi K,Zi N,.string S,.slice pt nt ct,.slice pn nn cn,.slice pp np cp]) x) (c:∃room,za9 D d room x=true) (hz:szX D d x<=30000) (a:Int) :
  ∀W,ZB w W->Leaves 149 #[.agg #[Zi A,Zi K,Zi N,.string S,.slice pt nt ct,.slice pn nn cn,.slice pp np cp],Zi a] W (zcx (zbv D d x) a (exS D d x)):=fun W s=>by
 obtain⟨h,j⟩:=exKind_in c;have hle:=zlp D d x;rw[<-ev_kind g.1]at h j ⊢;exact at_any A K N S pt pn pp nt nn np ct cn cp a _ W h j (zdr c) (by omega) fun W' t=>r x _ W' (g.below (bon s t)) c hz
theorem exS_sum (D d:Nat) (xs:List (Ex D d)) (n:Nat):((List.range n).map fun i=>((xs[i]?.map (exS D d)).getD []).length+3*(xs[i]?.map fun _=>1).getD 0).sum<=9*zdp D d xs:=by
 have e:∀i,i<n->((xs[i]?.map (exS D d)).getD []).length+3*(xs[i]?.map fun _=>1).getD 0<=(xs[i]?.map fun u=>9*szX D d u).getD 0:=fun i _=>by
  rcases xs[i]? with _|u
  ·simp
  ·have:=zlp D d u;simpa using this
 refine Yh (zew e) (Yh (zfb xs (fun u=>9*szX D d u) n) ?_);clear e
 induction xs with
 | nil=>simp[zdp]
 | cons x r c=>simp only[zdp,Yf,YM]at c ⊢;omega
theorem len_flat (g:Nat->List Bs):∀n,((List.range n).flatMap g).length=((List.range n).map fun i=>(g i).length).sum
 | 0=>rfl
 | n+1=>by
  have c:=len_flat g n;rw[YA,YO,Y9,c,Yj,Yx];simp
theorem litS_len (hd ns:List Bs) {D d:Nat} (xs:List (Ex D d)) (n:Nat) (c:n<=xs.length):(zfl hd ns (fun i=>(xs[i]?.map (exS D d)).getD []) n).length<=hd.length+9*zdp D d xs:=by
 unfold zfl;rw[Y9,len_flat];dsimp only;have h:=exS_sum D d xs n;have g:((List.range n).map fun i=>((if 0<i then[[44]]else[])++[ns.getD i [],[58]]++(xs[i]?.map (exS D d)).getD []).length).sum<=((List.range n).map fun i=>((xs[i]?.map (exS D d)).getD []).length+3*(xs[i]?.map fun _=>1).getD 0).sum:=zew fun i j=>by
  have e:xs[i]?=some (xs[i]'(by omega)):=by simp
  rw[Y9,Y9,e];simp only[X5,YY]
  split <;> simp <;> omega
 omega
theorem argS_len {D d:Nat} (xs:List (Ex D d)) (n:Nat) (c:n<=xs.length):(zk1 (fun i=>(xs[i]?.map (exS D d)).getD []) n).length<=1+9*zdp D d xs:=by
 unfold zk1;rw[Yk,len_flat];dsimp only;have h:=exS_sum D d xs n;have g:((List.range n).map fun i=>((if 0<i then[[44]]else[])++(xs[i]?.map (exS D d)).getD []).length).sum<=((List.range n).map fun i=>((xs[i]?.map (exS D d)).getD []).length+3*(xs[i]?.map fun _=>1).getD 0).sum:=zew fun i j=>by
  have e:xs[i]?=some (xs[i]'(by omega)):=by simp
  rw[Y9,e];simp only[X5,YY]
  split <;> simp <;> omega
 omega
theorem zex {D d:Nat} (xs:List (Ex D d)) (i:Nat):(((xs[i]?.map (zj6 D d)).getD []).map J5)=(xs[i]?.map (exS D d)).getD []:=by
 cases xs[i]? <;> rfl
theorem typ_strs {D:Nat} (t:Ty D):(((([t]:List (Ty D))[0]?.map (Jf D false)).getD []).map J5)=tyS D t:=rfl
theorem len_two {α:Type} {l:List α} (h:l.length=2):∃a b,l=[a,b]:=by
 match l,h with
 | [a,b],_=>exact⟨a,b,rfl⟩
theorem ExCell.below {w W:Zw} {p:Zo} {k:Nat} {u:Value} (h:ExCell w p k u) (c:ZB w W):ExCell W p k u:=by
 obtain⟨g,o,A,K,N,S,pt,pn,s,nt,ct,nn,cn,t,c3,rfl,rfl,a0,j,a2,a3,a4,a5,r⟩:=h;exact⟨g,o,A,K,N,S,pt,pn,s,nt,ct,nn,cn,t,c3,rfl,rfl,(c.cell (p:=⟨g,_,none⟩) (J2 a0)).trans a0,(c.cell (p:=⟨g,_,none⟩) (J2 j)).trans j,(c.cell (p:=⟨g,_,none⟩) (J2 a2)).trans a2,(c.cell (p:=⟨g,_,none⟩) (J2 a3)).trans a3,(c.cell (p:=⟨g,_,none⟩) (J2 a4)).trans a4,(c.cell (p:=⟨g,_,none⟩) (J2 a5)).trans a5,(c.cell (p:=⟨g,_,none⟩) (J2 r)).trans r⟩
theorem told_step (D d:Nat) (IH:ToldAt D d):ToldAt D (d+1):=fun x v w hv hr hz=>by
 obtain⟨⟨pt,pn,pp,ct,cn,cp,rfl,r1,r2,r3⟩,_,_,_,_,_,_,vp,ev,rc⟩:=hv;obtain⟨ah,ak,aa⟩:=zdg hr;obtain⟨n0,s,k1,k2⟩:=zcy ah;obtain⟨A,K,N,S,ts,ns,xs⟩:=x;obtain⟨_,_,s7,s6,s1,ai,al,s3⟩:=zho ah;have av:1+S.length+ns.length+zgm ns+szL D ts+zdp D d xs<=30000:=hz;dsimp only[xAt,zfi,xN,xS,xT,xNs,xPs]at *;have am:Value.slice pp xs.length cp=vp:=by
  injection ev with e1
  have:=congrArg (fun(x:Array Value)=>x[6]?) e1;simpa using this
 subst am;clear ev;have ab:∀u∈xs,szX D d u<=30000:=fun u hu=>by have:=zlt hu;omega
 have typ:∀t,ts=[t]->∃(g o:Nat) (G:Int) (S':Zy) (I J L:Zo) (s M U V Y c3:Nat),pt=some ⟨g,o,none⟩/\w.cell? ⟨g,o,none⟩=some (Zi G)/\w.cell? ⟨g,o+1,none⟩=some (.string S')/\w.cell? ⟨g,o+2,none⟩=some (.slice I s M)/\w.cell? ⟨g,o+3,none⟩=some (.slice J U V)/\w.cell? ⟨g,o+4,none⟩=some (.slice L Y c3)/\0<(tyS D t).length/\(tyS D t).length<=300000/\∀W,ZB w W->Leaves 34 #[.agg #[Zi G,.string S',.slice I s M,.slice J U V,.slice L Y c3]] W (tyS D t):=fun t ht=>by
  subst ht;obtain⟨x,⟨g,o,G,S',I,J,L,s,M,U,V,Y,c3,rfl,rfl,a0,Z,a2,a3,a4⟩,hx⟩:=TyRow.at r1 0 (by simp);simp only[Xt,Xs]at a0 Z a2 a3 a4;have aj:∃room,JP D room t=true:=⟨_,zeu ak t (by simp)⟩
  have hle:=tyS_le D t;have aw:szL D [t]=szD D t:=by simp[szL]
  exact⟨g,o,G,S',I,J,L,s,M,U,V,Y,c3,rfl,a0,Z,a2,a3,a4,zfp aj,by omega,fun W hW=>(zmb D t _ W (TyValD.below hW hx) aj (by omega)).mono fun e w' ⟨⟨u,he,ho,_⟩,hb⟩=>⟨⟨u,he,ho⟩,hb⟩⟩
 rw[exS_of];show zcu A K N ⟨S.toArray⟩ pt pn pp ts.length ns.length xs.length ct cn cp w _;by_cases ac:15<=K
 ·obtain⟨j,x1,rfl⟩:=len_two (al ac);obtain⟨u0,⟨g,o,A',G,N',S',I,J,L,s,M,U,V,Y,c3,rfl,rfl,a0,Z,a2,a3,a4,a5,a6⟩,h0⟩:=EV.at r3 rc 0 (by simp);obtain⟨u1,⟨g',o',A2,K2,N2,S2,rn,re,r4,m1,d1,m2,d2,m3,d3,e,rfl,b0,b1,b2,b3,b4,b5,b6⟩,h1⟩:=EV.at r3 rc 1 (by simp);obtain⟨rfl,rfl⟩:g=g'/\o=o':=by simpa using e
  clear e;simp only[Xt,Xs]at a0 Z a2 a3 a4 a5 a6;simp only[Nat.one_mul]at b0 b1 b2 b3 b4 b5 b6;have p0:=zle IH (x:=j) h0 (aa j (by simp)) (ab j (by simp));have p1:=zle IH (x:=x1) h1 (aa x1 (by simp)) (ab x1 (by simp));have l0:=zlp D d j;have l1:=zlp D d x1;have z0:=ab j (by simp);have z1:=ab x1 (by simp);have q0:=zdr (aa j (by simp));have q1:=zdr (aa x1 (by simp));rw[exM_two ac k2];show zcu A K N ⟨S.toArray⟩ pt pn (Zs g o) ts.length ns.length 2 ct cn cp w (zcx (zbv D d j) (if K=18∨K=19 then zab K+1 else zab K) (exS D d j)++[signS K]++zcx (zbv D d x1) (zab K+1) (exS D d x1));have y0:=fun a=>ziz (zbv D d j) a (exS D d j)
  have y1:=fun a=>ziz (zbv D d x1) a (exS D d x1)
  by_cases k3:K=18∨K=19
  ·have ad:zab K=3:=by rcases k3 with e|e <;> subst e <;> rfl
   rw[Ye k3,ad];exact tolds_two3 A K N _ _ pt pn _ _ ct cn cp w g o _ A' G N' S' I J L s M U V Y c3 (ze2 q0) (by have:=y0 (3+1);omega) _ A2 K2 N2 S2 rn re r4 m1 d1 m2 d2 m3 d3 (ze2 q1) (by have:=y1 (3+1);omega) ac k2 ad rfl a0 Z a2 a3 a4 a5 a6 b0 b1 b2 b3 b4 b5 b6 (p0 4) (p1 (3+1))
  ·rw[Y7 k3];have ad:0<=zab K/\zab K<=1000/\(zab K==3)=false:=by
    have hk:K=15∨K=16∨K=17∨K=20∨K=21:=by omega
    rcases hk with e|e|e|e|e <;> subst e <;> decide
   obtain⟨an,ao,ap⟩:=ad;exact tolds_two A K N (zab K) _ _ pt pn _ _ ct cn cp w g o _ A' G N' S' I J L s M U V Y c3 (ze2 q0) (by have:=y0 (zab K);omega) _ A2 K2 N2 S2 rn re r4 m1 d1 m2 d2 m3 d3 (ze2 q1) (by have:=y1 (zab K+1);omega) ac k2 rfl an ao ap rfl a0 Z a2 a3 a4 a5 a6 b0 b1 b2 b3 b4 b5 b6 (p0 _) (p1 _)
 have one:∀j,xs=[j]->∃(g o:Nat) (A' G N':Int) (S':Zy) (I J L:Zo) (s M U V Y c3:Nat),pp=some ⟨g,o,none⟩/\w.cell? ⟨g,o,none⟩=some (Zi A')/\w.cell? ⟨g,o+1,none⟩=some (Zi G)/\w.cell? ⟨g,o+2,none⟩=some (Zi N')/\w.cell? ⟨g,o+3,none⟩=some (.string S')/\w.cell? ⟨g,o+4,none⟩=some (.slice I s M)/\w.cell? ⟨g,o+5,none⟩=some (.slice J U V)/\w.cell? ⟨g,o+6,none⟩=some (.slice L Y c3)/\(∀a,0<(zcx (zbv D d j) a (exS D d j)).length/\(zcx (zbv D d j) a (exS D d j)).length<=300000) /\
   ∀a W,ZB w W->Leaves 149 #[.agg #[Zi A',Zi G,Zi N',.string S',.slice I s M,.slice J U V,.slice L Y c3],Zi a] W (zcx (zbv D d j) a (exS D d j)):=fun j he=>by
  subst he;obtain⟨u0,⟨g,o,A',G,N',S',I,J,L,s,M,U,V,Y,c3,rfl,rfl,a0,Z,a2,a3,a4,a5,a6⟩,h0⟩:=EV.at r3 rc 0 (by simp);simp only[Xt,Xs]at a0 Z a2 a3 a4 a5 a6;have l0:=zlp D d j;have z0:=ab j (by simp);refine⟨g,o,A',G,N',S',I,J,L,s,M,U,V,Y,c3,rfl,a0,Z,a2,a3,a4,a5,a6,fun a=>⟨ze2 (zdr (aa j (by simp))),?_⟩,fun a=>zle IH (x:=j) h0 (aa j (by simp)) z0 a⟩;have:=ziz (zbv D d j) a (exS D d j);omega
 have hk:K=1∨K=2∨K=3∨K=4∨K=5∨K=6∨K=7∨K=8∨K=9∨K=10∨K=11∨K=12∨K=13∨K=14:=by omega
 have lits:ns.length=xs.length->∀k,k<ns.length->∃u,ExCell w pp k u/\0<((xs[k]?.map (exS D d)).getD []).length/\∀W,ZB w W->Leaves 116 #[u] W ((xs[k]?.map (exS D d)).getD []):=fun hl k hk=>by
  have af:k<xs.length:=by omega
  have e:xs[k]?=some xs[k]:=by simp
  obtain⟨u,c,h⟩:=EV.at r3 rc k af;rw[e];exact⟨u,c,zdr (aa _ (by simp)),fun W hW=>IH _ u W (h.below hW) (aa _ (by simp)) (ab _ (by simp))⟩
 have rest:∀j r g o,xs=j::r->pp=some ⟨g,o,none⟩->∀k,k<r.length->∃u,ExCell w (Zs g (o+7)) k u/\0<((r[k]?.map (exS D d)).getD []).length/\∀W,ZB w W->Leaves 116 #[u] W ((r[k]?.map (exS D d)).getD []):=fun j r g o hx hp k hk=>by
  subst hx hp;have e:r[k]?=some r[k]:=by simp
  obtain⟨u,c,h⟩:=EV.at r3 rc (k+1) (by simp;omega);rw[e];have hm:r[k]∈j::r:=List.mem_cons_of_mem _ (by simp);exact⟨u,excell_rest c,zdr (aa _ hm),fun W hW=>IH _ u W (h.below hW) (aa _ hm) (ab _ hm)⟩
 have ae:=cap_le rc;rcases hk with e|e|e|e|e|e|e|e|e|e|e|e|e|e
 ·subst e;obtain⟨n,rfl⟩:∃n:Nat,N=(n:Int):=⟨N.toNat,by omega⟩
  rw[exM_1];exact tolds_1 A n _ pt pn pp _ _ _ ct cn cp w (by omega)
 ·subst e;rw[exM_2];exact tolds_2 A N S pt pn pp _ _ _ ct cn cp w (by omega)
 ·subst e;rcases s3 rfl with e|e <;> subst e
  ·rw[exM_3f];exact tolds_3f A _ pt pn pp _ _ _ ct cn cp w
  ·rw[exM_3t];exact tolds_3t A _ pt pn pp _ _ _ ct cn cp w
 ·subst e;rw[exM_4];exact tolds_4 A N S pt pn pp _ _ _ ct cn cp w
 ·subst e;rw[exM_5];exact tolds_5 A N _ pt pn pp _ _ _ ct cn cp w
 ·subst e;obtain⟨t,rfl⟩:=Xq.1 (s6 (.inl rfl));obtain⟨g,o,G,S',I,J,L,s,M,U,V,Y,c3,rfl,a0,Z,a2,a3,a4,hp,hl,CL⟩:=typ t rfl;rw[exM_6,typ_strs];exact tolds_6 A N _ pn pp _ _ ct cn cp w g o _ G S' I J L s M U V Y c3 hp (by omega) a0 Z a2 a3 a4 CL
 ·subst e;obtain⟨_,hl,_⟩:=s7 (.inl rfl);have h1:=litS_len [S,[123]] ns xs ns.length (by omega);rw[exM_7];simp only[zex];rw[<-hl];exact tolds_7 A N S pt pn pp _ ns.length ct cn cp w ns _ rfl (by omega) (by simp at h1 ⊢;omega) r2 (lits hl)
 ·subst e;obtain⟨_,hl,_⟩:=s7 (.inr rfl);have h1:=litS_len [[110,101,119],S,[123]] ns xs ns.length (by omega);rw[exM_8];simp only[zex];rw[<-hl];exact tolds_8 A N S pt pn pp _ ns.length ct cn cp w ns _ rfl (by omega) (by simp at h1 ⊢;omega) r2 (lits hl)
 ·subst e;obtain⟨j,rfl⟩:=Xq.1 (s1 (.inl rfl));obtain⟨g,o,A',G,N',S',I,J,L,s,M,U,V,Y,c3,rfl,a0,Z,a2,a3,a4,a5,a6,hp,CL⟩:=one j rfl;rw[exM_9];exact tolds_9 A N S pt pn _ _ ct cn cp w g o _ A' G N' S' I J L s M U V Y c3 (hp 7).1 (hp 7).2 a0 Z a2 a3 a4 a5 a6 (CL 7)
 ·subst e;obtain⟨j,r,rfl⟩:∃j r,xs=j::r:=by
   cases xs with
   | nil=>have:=ai (.inl rfl);simp at this
   | cons a b=>exact⟨a,b,rfl⟩
  obtain⟨u0,⟨g,o,A',G,N',S',I,J,L,s,M,U,V,Y,c3,rfl,rfl,a0,Z,a2,a3,a4,a5,a6⟩,h0⟩:=EV.at r3 rc 0 (by simp);simp only[Xt,Xs]at a0 Z a2 a3 a4 a5 a6;obtain⟨c,rfl⟩:∃c,cp=c+1:=⟨cp-1,by simp at ae;omega⟩
  have hm:r.length<=c:=by simp at ae;omega
  have l0:=zlp D d j;have z0:=ab j (by simp);have y0:=ziz (zbv D d j) 7 (exS D d j);have aq:zdp D d (j::r)=szX D d j+zdp D d r:=by simp[zdp]
  have la:=argS_len r r.length (Y5 _);have lr:=zmt r;rw[exM_10];exact tolds_10 A N S pt pn _ _ ct cn c r.length w g o _ A' G N' S' I J L s M U V Y c3 (ze2 (zdr (aa j (by simp)))) (show(zcx (zbv D d j) 7 (exS D d j)).length<=300000 by omega) _ (by simp) (show(zk1 (fun i=>(((j::r)[i+1]?.map (zj6 D d)).getD []).map J5) r.length++[[41]]).length<=300000 by simp only[zex,YN];rw[Y9];simp;omega) hm a0 Z a2 a3 a4 a5 a6
   (fun W hW=>by
    show Leaves 150 #[.slice (zic g o c) r.length c] W (zk1 (fun i=>(((j::r)[i+1]?.map (zj6 D d)).getD []).map J5) r.length++[[41]]);simp only[zex,YN];refine rest_args hm (by omega) (by omega) fun k hk=>?_
    obtain⟨u,hc,hq,hL⟩:=rest j r g o rfl rfl k hk;exact⟨u,hc.below hW,hq,fun W' ag=>hL W' (bon hW ag)⟩)
   (zle IH (x:=j) h0 (aa j (by simp)) z0 7)
 ·subst e;obtain⟨j,r,rfl⟩:∃j r,xs=j::r:=by
   cases xs with
   | nil=>have:=ai (.inr rfl);simp at this
   | cons a b=>exact⟨a,b,rfl⟩
  obtain⟨u0,⟨g,o,A',G,N',S',I,J,L,s,M,U,V,Y,c3,rfl,rfl,a0,Z,a2,a3,a4,a5,a6⟩,h0⟩:=EV.at r3 rc 0 (by simp);simp only[Xt,Xs]at a0 Z a2 a3 a4 a5 a6;obtain⟨c,rfl⟩:∃c,cp=c+1:=⟨cp-1,by simp at ae;omega⟩
  have hm:r.length<=c:=by simp at ae;omega
  have l0:=zlp D d j;have z0:=ab j (by simp);have y0:=ziz (zbv D d j) 7 (exS D d j);have aq:zdp D d (j::r)=szX D d j+zdp D d r:=by simp[zdp]
  have la:=argS_len r r.length (Y5 _);have lr:=zmt r;have af:G=zbv D d j:=ev_kind h0.1;rw[exM_11];exact tolds_11 A N _ pt pn _ _ ct cn c r.length w g o _ A' G N' S' I J L s M U V Y c3 (ze2 (zdr (aa j (by simp)))) (show(zcx (zbv D d j) 7 (exS D d j)).length<=300000 by omega) _ _ (by simp) (show(zk1 (fun i=>(((j::r)[i+1]?.map (zj6 D d)).getD []).map J5) r.length++[[41]]).length<=300000 by simp only[zex,YN];rw[Y9];simp;omega) hm (by rw[af];rfl) a0 Z a2 a3 a4 a5 a6
   (fun W hW=>by
    show Leaves 150 #[.slice (zic g o c) r.length c] W (zk1 (fun i=>(((j::r)[i+1]?.map (zj6 D d)).getD []).map J5) r.length++[[41]]);simp only[zex,YN];refine rest_args hm (by omega) (by omega) fun k hk=>?_
    obtain⟨u,hc,hq,hL⟩:=rest j r g o rfl rfl k hk;exact⟨u,hc.below hW,hq,fun W' ag=>hL W' (bon hW ag)⟩)
   (zle IH (x:=j) h0 (aa j (by simp)) z0 7)
 ·subst e;obtain⟨j,rfl⟩:=Xq.1 (s1 (.inr (.inl rfl)));obtain⟨t,rfl⟩:=Xq.1 (s6 (.inr rfl));obtain⟨g,o,A',G,N',S',I,J,L,s,M,U,V,Y,c3,rfl,a0,Z,a2,a3,a4,a5,a6,hp,CL⟩:=one j rfl;obtain⟨gt,ot,kt,st,tn,te,tp,m1,d1,m2,d2,m3,d3,rfl,t0,t1,t2,t3,t4,ar,au,CT⟩:=typ t rfl;rw[exM_12,typ_strs];exact tolds_12 A N _ pn _ ct cn cp w g o _ A' G N' S' I J L s M U V Y c3 (hp 7).1 (hp 7).2 gt ot _ kt st tn te tp m1 d1 m2 d2 m3 d3 ar au a0 Z a2 a3 a4 a5 a6 t0 t1 t2 t3 t4 CT (CL 7)
 ·subst e;obtain⟨j,rfl⟩:=Xq.1 (s1 (.inr (.inr (.inl rfl))));obtain⟨g,o,A',G,N',S',I,J,L,s,M,U,V,Y,c3,rfl,a0,Z,a2,a3,a4,a5,a6,hp,CL⟩:=one j rfl;rw[exM_13];exact tolds_13 A N _ pt pn _ _ ct cn cp w g o _ A' G N' S' I J L s M U V Y c3 (hp 6).1 (by have:=(hp 6).2;exact Yh this (by decide)) a0 Z a2 a3 a4 a5 a6 (CL 6)
 ·subst e;obtain⟨j,rfl⟩:=Xq.1 (s1 (.inr (.inr (.inr rfl))));obtain⟨g,o,A',G,N',S',I,J,L,s,M,U,V,Y,c3,rfl,a0,Z,a2,a3,a4,a5,a6,hp,CL⟩:=one j rfl;rw[exM_14];exact tolds_14 A N _ pt pn _ _ ct cn cp w g o _ A' G N' S' I J L s M U V Y c3 (hp 6).1 (by have:=(hp 6).2;exact Yh this (by decide)) a0 Z a2 a3 a4 a5 a6 (CL 6)
theorem told_any (D:Nat):∀d,ToldAt D d
 | 0=>fun x=>nomatch x
 | d+1=>told_step D d (told_any D d)
end Go.Proofs.YtdcbglnhhbmpgaaGreatDoor
