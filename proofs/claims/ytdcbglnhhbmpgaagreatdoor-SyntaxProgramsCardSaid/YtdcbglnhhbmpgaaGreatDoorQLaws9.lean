import Derived.Test.YtdcbglnhhbmpgaaGreatDoorQJoinF

namespace Go.Proofs.YtdcbglnhhbmpgaaGreatDoor
namespace Lx
def Halt (k:Int) (s r:Bs):Prop:=r=[]∨((k=1∨k=2∨k=3∨k=4->JG (hd r)=false)/\(k=6->s=[61]->hd r≠61))
theorem or_map {a b c d:Prop} (h:a∨b) (f:a->c) (g:b->d):c∨d:=by
 rcases h with h|h
 ·exact .inl (f h)
 ·exact .inr (g h)
theorem hd_app {l:Bs} (r:Bs) (h:l≠[]):hd (l++r)=hd l:=by cases l with
 | nil=>exact absurd rfl h
 | cons c t=>rfl
theorem run0 (p:Int->Bool) (r:Bs) (h:r=[]∨p (hd r)=false):Jt p r=0:=by
 cases r with
 | nil=>rfl
 | cons c t=>exact zea p c t (h.resolve_left (by simp))
theorem run_stop (p:Int->Bool):∀(l r:Bs),(r=[]∨p (hd r)=false)->Jt p (l.take (Jt p l)++r)=Jt p l
 | [],r,h=>by simpa[runLen_nil]using run0 p r h
 | c::t,r,h=>by
  by_cases g:p (c.toNat:Int)=true
  ·rw[zbs p c t g,Nat.add_comm,List.take_succ_cons,YD,zbs p c _ g,run_stop p t r h,Nat.add_comm]
  ·rw[zea p c t ((Yb _).mp g)];simpa using run0 p r h
theorem run_rest (p:Int->Bool):∀(l:Bs),l.drop (Jt p l)=[]∨p (hd (l.drop (Jt p l)))=false
 | []=>.inl (by simp)
 | c::t=>by
  by_cases g:p (c.toNat:Int)=true
  ·rw[zbs p c t g,Nat.add_comm,List.drop_succ_cons];exact run_rest p t
  ·have g:=(Yb _).mp g;rw[zea p c t g];exact .inr g
theorem run_all (p:Int->Bool):∀(l:Bs),∀c∈l.take (Jt p l),p (c.toNat:Int)=true
 | [],c,h=>by simp at h
 | d::t,c,h=>by
  by_cases hd:p (d.toNat:Int)=true
  ·rw[zbs p d t hd,Nat.add_comm,List.take_succ_cons,Xj]at h;rcases h with rfl|h
   ·exact hd
   ·exact run_all p t c h
  ·rw[zea p d t ((Yb _).mp hd)]at h;simp at h
theorem run_of_all (p:Int->Bool):∀(l:Bs),(∀c∈l,p (c.toNat:Int)=true)->Jt p l=l.length
 | [],_=>rfl
 | c::t,h=>by rw[zbs p c t (h c (by simp)),run_of_all p t (fun d hd=>h d (by simp[hd])),Yk];omega
theorem take_take_app {n:Nat} {l:Bs} (r:Bs) (h:n<=l.length):(l.take n++r).take n=l.take n:=by
 rw[List.take_append_of_le_length (by simp;omega),List.take_take,Nat.min_self]
theorem zld (s:Bs):kindOf s=1∨kindOf s=2∨kindOf s=3:=by
 unfold kindOf;repeat' split
 all_goals simp
theorem name_is {l:Bs} {k v:Int} {s:Bs} {m:Nat} (h:zau l=.inr (k,s,v,m)):m=1+Jt JG l.tail/\m<=32/\k=kindOf s/\s=l.take m/\v=0:=by
 unfold zau at h
 split at h
 ·cases h
 ·cases h;exact⟨rfl,by omega,rfl,rfl,rfl⟩
theorem name_again {c:UInt8} {t r:Bs} (hm:1+Jt JG t<=32) (g:r=[]∨JG (hd r)=false) :
  zau ((c::t).take (1+Jt JG t)++r)=.inr (kindOf ((c::t).take (1+Jt JG t)),(c::t).take (1+Jt JG t),0,1+Jt JG t):=by
 have e:(c::t).take (1+Jt JG t)++r=c::(t.take (Jt JG t)++r):=by rw[Nat.add_comm,List.take_succ_cons];rfl
 have s:=ze5 JG t;have h:Jt JG ((c::t).take (1+Jt JG t)++r).tail=Jt JG t:=by rw[e];exact run_stop JG t r g
 have j:((c::t).take (1+Jt JG t)++r).take (1+Jt JG t)=(c::t).take (1+Jt JG t):=take_take_app r (by simp;omega);unfold zau;rw[h,j,Y7 (by omega)]
theorem sign_is {l:Bs} {k v:Int} {s:Bs} {m:Nat} (g:l≠[]) (h:zaw l=.inr (k,s,v,m)):k=6/\v=0/\s=l.take m/\1<=m/\m<=l.length/\Halt k s (l.drop m):=by
 unfold zaw at h
 split at h
 case isTrue hp=>
  cases h
  match l,hp with
  | [],hp=>simp[List.isPrefixOf]at hp
  | [c],hp=>simp[List.isPrefixOf]at hp
  | c::d::r,hp=>
   refine⟨rfl,rfl,rfl,by omega,by simp,.inr ⟨by omega,fun _ h=>?_⟩⟩;simp at h
 case isFalse hp=>
  cases h
  match l,hp with
  | [],_=>exact absurd rfl g
  | c::r,hp=>
   refine⟨rfl,rfl,rfl,by omega,by simp,?_⟩
   cases r with
   | nil=>exact .inl rfl
   | cons d r=>
    refine .inr ⟨by omega,fun _ h e=>hp ?_⟩;have j:c=61:=by simpa using h
    have t:d=61:=by
     have u:(d.toNat:Int)=61:=e;exact UInt8.toNat_inj.mp (by simpa using(by omega:d.toNat=61))
    subst j t;simp[List.isPrefixOf]
theorem sign_again {l:Bs} {k v:Int} {s r:Bs} {m:Nat} (u:l≠[]) (h:zaw l=.inr (k,s,v,m)) (g:Halt k s r):zaw (l.take m++r)=.inr (k,s,v,m):=by
 unfold zaw at h
 split at h
 case isTrue hp=>
  cases h
  match l,hp with
  | [],hp=>simp[List.isPrefixOf]at hp
  | [c],hp=>simp[List.isPrefixOf]at hp
  | c::d::t,hp=>
   simp[List.isPrefixOf]at hp;obtain⟨rfl,rfl⟩:=hp;simp[zaw,List.isPrefixOf]
 case isFalse hp=>
  cases h
  match l,hp with
  | [],_=>exact absurd rfl u
  | c::t,hp=>
   have:[61,61].isPrefixOf (c::r)=false:=by
    cases r with
    | nil=>simp[List.isPrefixOf]
    | cons d r=>
     rcases g with g|g
     ·cases g
     ·rw[Bool.eq_false_iff];intro j;simp[List.isPrefixOf]at j;obtain⟨rfl,rfl⟩:=j;exact g.2 rfl rfl rfl
   show zaw (c::r)=_;unfold zaw;rw[Y7 (by rw[this];decide)];simp
theorem sayB_esc {d:UInt8} (h:zfm (d.toNat:Int)=true):∃c:UInt8,sayB c=true/\zm0 c=[92,d]/\(escB (d.toNat:Int)).toNat.toUInt8=c:=by
 have:d=110∨d=34∨d=92:=by
  simp[zfm]at h;rcases h with(h|h)|h
  ·exact .inl (UInt8.toNat_inj.mp (by simpa using(by omega:d.toNat=110)))
  ·exact .inr (.inl (UInt8.toNat_inj.mp (by simpa using(by omega:d.toNat=34))))
  ·exact .inr (.inr (UInt8.toNat_inj.mp (by simpa using(by omega:d.toNat=92))))
 rcases this with rfl|rfl|rfl
 ·exact⟨10,by decide,by decide,by decide⟩
 ·exact⟨34,by decide,by decide,by decide⟩
 ·exact⟨92,by decide,by decide,by decide⟩
theorem text_end (r:Bs) (i:Nat) (acc:Bs):textF (34::r) i acc=.inr (acc,i+1):=by rw[textF.eq_def];rfl
theorem zkf (d:UInt8) (r:Bs) (i:Nat) (acc:Bs) (h:zfm (d.toNat:Int)=true):textF (92::d::r) i acc=textF r (i+2) (acc++[(escB (d.toNat:Int)).toNat.toUInt8]):=by
 rw[textF.eq_def];simp only;rw[Y7 (by decide),Ye trivial,Ye h]
theorem zjd (c:UInt8) (r:Bs) (i:Nat) (acc:Bs) (g:c≠34) (j:c≠92) (h:zbf (c.toNat:Int)=true):textF (c::r) i acc=textF r (i+1) (acc++[c]):=by
 rw[textF.eq_def];simp only;rw[Y7 g,Y7 j,Ye h]
theorem text_is:∀(l:Bs) (i:Nat) (acc s:Bs) (n:Nat),textF l i acc=.inr (s,n)->∃q r,s=acc++q/\JS q=true/\l=zh6 q++34::r/\n=i+(zh6 q).length+1
 | [],i,acc,s,n,h=>by rw[textF.eq_def]at h;cases h
 | [c],i,acc,s,n,h=>by
  by_cases g:c=34
  ·subst g;rw[text_end]at h;cases h;exact⟨[],[],by simp,rfl,rfl,by simp[zh6]⟩
  ·by_cases j:c=92
   ·subst j;rw[textF.eq_def]at h;simp only at h;rw[Y7 (by decide),Ye trivial]at h
    cases h
   ·by_cases hp:zbf (c.toNat:Int)=true
    ·rw[zjd c _ _ _ g j hp,textF.eq_def]at h;cases h
    ·rw[textF.eq_def]at h;simp only at h;rw[Y7 g,Y7 j,Y7 hp]at h
     cases h
 | c::d::r,i,acc,s,n,h=>by
  have L:=text_is (d::r);have M:=text_is r;by_cases g:c=34
  ·subst g;rw[text_end]at h;cases h;exact⟨[],d::r,by simp,rfl,rfl,by simp[zh6]⟩
  ·by_cases j:c=92
   ·subst j;by_cases hd:zfm (d.toNat:Int)=true
    ·rw[zkf _ _ _ _ hd]at h;obtain⟨q,t,u,x,G,I⟩:=M _ _ _ _ h;obtain⟨c,U,J,V⟩:=sayB_esc hd;refine⟨c::q,t,by rw[u,V];simp,by rw[zbc,U,x];rfl,by rw[G,zbn,J];simp,by rw[I,zbn,J];simp;omega⟩
    ·rw[textF.eq_def]at h;simp only at h;rw[Y7 (by decide),Ye trivial,Y7 hd]at h
     cases h
   ·by_cases hp:zbf (c.toNat:Int)=true
    ·rw[zjd c _ _ _ g j hp]at h;obtain⟨q,t,u,x,G,I⟩:=L _ _ _ _ h;have Y:c≠10:=by rintro rfl;revert hp;decide
     have he:zm0 c=[c]:=by simp[zm0,Y,g,j]
     refine⟨c::q,t,by rw[u];simp,by rw[zbc,x,sayB,hp];simp,by rw[G,zbn,he];simp,by rw[I,zbn,he];simp;omega⟩
    ·rw[textF.eq_def]at h;simp only at h;rw[Y7 g,Y7 j,Y7 hp]at h
     cases h
theorem text_again:∀(q:Bs) (r:Bs) (i:Nat) (acc:Bs),JS q=true->textF (zh6 q++34::r) i acc=.inr (acc++q,i+(zh6 q).length+1)
 | [],r,i,acc,_=>by simp[zh6,text_end]
 | c::q,r,i,acc,h=>by
  rw[zbc,Yc]at h;obtain⟨u,x⟩:=h;have g:=fun i acc=>text_again q r i acc x
  rw[zbn];by_cases j:c=10
  ·subst j;show textF (92::110::(zh6 q++34::r)) i acc=_;rw[zkf _ _ _ _ (by decide),g];have:(escB ((110:UInt8).toNat:Int)).toNat.toUInt8=10:=by decide
   rw[this];simp[zm0];omega
  ·by_cases s:c=34
   ·subst s;show textF (92::34::(zh6 q++34::r)) i acc=_;rw[zkf _ _ _ _ (by decide),g];have:(escB ((34:UInt8).toNat:Int)).toNat.toUInt8=34:=by decide
    rw[this];simp[zm0];omega
   ·by_cases t:c=92
    ·subst t;show textF (92::92::(zh6 q++34::r)) i acc=_;rw[zkf _ _ _ _ (by decide),g];have:(escB ((92:UInt8).toNat:Int)).toNat.toUInt8=92:=by decide
     rw[this];simp[zm0];omega
    ·have he:zm0 c=[c]:=by simp[zm0,j,s,t]
     have hp:zbf (c.toNat:Int)=true:=by simpa[sayB,j]using u
     rw[he];show textF (c::(zh6 q++34::r)) i acc=_;rw[zjd c _ _ _ s t hp,g];simp;omega
end Lx
namespace Lx
open Lib
theorem fold_app:∀(a b:Bs) (n:Int),za4 (a++b) n=(za4 a n).bind fun m=>za4 b m
 | [],b,n=>rfl
 | c::a,b,n=>by
  show za4 (c::(a++b)) n=_;rw[za4,za4]
  split
  ·rfl
  ·exact fold_app a b _
theorem zf7 {d:Nat} (h:d<10):((UInt8.ofNat (48+d)).toNat:Int)-48=d:=by
 rw[UInt8.toNat_ofNat'];omega
theorem fold_dec (u:Nat) (h:u<=9223372036854775807):za4 (decDigits u) 0=some (u:Int):=by
 induction u using Nat.strongRecOn with
 | _ u c=>
  by_cases hu:u<10
  ·rw[decDigits,dif_pos hu];unfold za4;rw[zf7 hu,Y7 (by omega)];simp[za4]
  ·rw[decDigits,dif_neg hu,fold_app,c (u / 10) (by omega) (by omega)];show za4 [UInt8.ofNat (48+u % 10)] _=_;unfold za4;rw[zf7 (by omega),Y7 (by omega)];simp only[za4]
   congr 1;omega
theorem zl9 (u:Nat):decDigits u≠[]:=by
 rw[decDigits];split <;> simp
theorem dec_digit (u:Nat):∀c∈decDigits u,Jl (c.toNat:Int)=true:=by
 induction u using Nat.strongRecOn with
 | _ u j=>
  have one:∀d,d<10->Jl ((UInt8.ofNat (48+d)).toNat:Int)=true:=by
   intro d hd;have:=zf7 hd;simp only[Jl,Yc,Xb];omega
  intro c g;by_cases hu:u<10
  ·rw[decDigits,dif_pos hu]at g;rw[Xg.1 g];exact one u hu
  ·rw[decDigits,dif_neg hu]at g;rcases YZ.1 g with h|h
   ·exact j (u / 10) (by omega) c h
   ·rw[Xg.1 h];exact one _ (by omega)
theorem dec_hd (u:Nat) (h:hd (decDigits u)=48):u=0:=by
 induction u using Nat.strongRecOn with
 | _ u c=>
  by_cases hu:u<10
  ·rw[decDigits,dif_pos hu]at h;have e:((UInt8.ofNat (48+u)).toNat:Int)=48:=h;have:=zf7 hu;omega
  ·rw[decDigits,dif_neg hu,hd_app _ (zl9 _)]at h;have:=c (u / 10) (by omega) h;omega
theorem number_dec (u:Nat) (h:u<=9223372036854775807):number (decDigits u)=some (u:Int):=by
 unfold number;rw[Y7,fold_dec u h];rintro⟨g,c⟩;obtain rfl:=dec_hd u g;rw[decDigits,dif_pos (by decide)]at c;simp at c
theorem zk6 {c:UInt8} (h:Jl (c.toNat:Int)=true):∃d,d<10/\c=UInt8.ofNat (48+d)/\(c.toNat:Int)-48=d:=by
 simp only[Jl,Yc,Xb]at h;refine⟨c.toNat-48,by omega,?_,by omega⟩;apply UInt8.toNat_inj.mp;rw[UInt8.toNat_ofNat'];omega
theorem fold_is:∀(g:Bs) (n:Nat) (v:Int),1<=n->n<=9223372036854775807->(∀c∈g,Jl (c.toNat:Int)=true)->za4 g n=some v->∃u:Nat,v=u/\u<=9223372036854775807/\decDigits u=decDigits n++g
 | [],n,v,_,j,_,h=>by cases h;exact⟨n,rfl,j,by simp⟩
 | c::r,n,v,L,j,hd,h=>by
  obtain⟨d,M,s,t⟩:=zk6 (hd c (by simp));unfold za4 at h;rw[t]at h
  split at h
  ·cases h
  ·have e:((n:Int)*10+(d:Int))=((n*10+d:Nat):Int):=by omega
   rw[e]at h;obtain⟨u,x,G,I⟩:=fold_is r (n*10+d) v (by omega) (by omega) (fun c J=>hd c (by simp[J])) h;refine⟨u,x,G,?_⟩;rw[I,decDigits,dif_neg (by omega),show(n*10+d) / 10=n from by omega,show(n*10+d) % 10=d from by omega,s];simp
theorem number_is (g:Bs) (v:Int) (s:g≠[]) (hd:∀c∈g,Jl (c.toNat:Int)=true) (h:number g=some v):∃u:Nat,v=u/\u<=9223372036854775807/\g=decDigits u:=by
 cases g with
 | nil=>exact absurd rfl s
 | cons c r=>
  obtain⟨d,t,j,G⟩:=zk6 (hd c (by simp));unfold number at h
  split at h
  ·cases h
  case isFalse hz=>
   unfold za4 at h;rw[G]at h
   split at h
   ·cases h
   ·by_cases I:d=0
    ·have J:r=[]:=by
      cases r with
      | nil=>rfl
      | cons x y=>
       exfalso;apply hz;refine⟨?_,by simp⟩;show(c.toNat:Int)=48;omega
     subst J I;rw[show za4 [] ((0:Int)*10+((0:Nat):Int))=some 0 from rfl]at h
     cases h
     refine⟨0,rfl,by omega,?_⟩;rw[decDigits,dif_pos (by decide),j]
    ·have e:((0:Int)*10+(d:Int))=((d:Nat):Int):=by omega
     rw[e]at h;obtain⟨u,L,M,U⟩:=fold_is r d v (by omega) (by omega) (fun c V=>hd c (by simp[V])) h;refine⟨u,L,M,?_⟩;rw[U,decDigits,dif_pos t,j];rfl
theorem digit_name {x:Int} (h:JG x=false):Jl x=false:=by
 simp[JG]at h;exact h.1.2
theorem num_is {c:UInt8} {t:Bs} {k v:Int} {s:Bs} {m:Nat} (G:Jl (c.toNat:Int)=true) (h:Jz (c::t)=.inr (k,s,v,m)) :
  k=4/\s=[]/\∃u:Nat,v=u/\u<=9223372036854775807/\(c::t).take m=decDigits u/\m=(decDigits u).length/\m<=(c::t).length/\((c::t).drop m=[]∨JG (hd ((c::t).drop m))=false):=by
 unfold Jz at h;have hlen:zal (c::t)<=(c::t).length:=by have:=ze5 Jl t;simp[zal];omega
 split at h
 ·cases h
 ·rename_i U I
  split at h
  ·cases h
  ·rename_i hz
   cases h
   have J:∀x∈(c::t).take (zal (c::t)),Jl (x.toNat:Int)=true:=by
    intro x g;have e:zal (c::t)=Jt Jl t+1:=by simp[zal];omega
    rw[e,List.take_succ_cons,Xj]at g;rcases g with rfl|g
    ·exact G
    ·exact run_all Jl t x g
   obtain⟨u,L,M,j⟩:=number_is _ _ (by simp[zal]) J I;refine⟨rfl,rfl,u,L,M,j,?_,hlen,?_⟩
   ·rw[<-j];simp;simp at hlen;omega
   ·by_cases r:(c::t).drop (zal (c::t))=[]
    ·exact .inl r
    ·exact .inr ((Yb _).mp fun h=>hz ⟨r,h⟩)
theorem num_again (u:Nat) (r:Bs) (h:u<=9223372036854775807) (g:r=[]∨JG (hd r)=false):Jz (decDigits u++r)=.inr (4,[],(u:Int),(decDigits u).length):=by
 obtain⟨c,t,j⟩:=YX (zl9 u);have G:=dec_digit u;have I:r=[]∨Jl (hd r)=false:=or_map g id digit_name;have J:zal (decDigits u++r)=(decDigits u).length:=by
  rw[j];show 1+Jt Jl (t++r)=_;have e:Jt Jl t=t.length:=run_of_all Jl t fun x L=>G x (by rw[j];simp[L])
  have:=run_stop Jl t r I;rw[e,Yr]at this;rw[this,Yk];omega
 unfold Jz;rw[J,List.take_left' rfl,number_dec u h];simp only;rw[List.drop_left' rfl,Y7];rintro⟨M,s⟩;rcases g with rfl|g
 ·exact M rfl
 ·rw[g]at s;cases s
end Lx
namespace Lx
open Lib
theorem zlg {l:Bs} (h:Jl (hd l)=true):cut l=Jz l:=by rw[cut,Ye h]
theorem zkn {l:Bs} (h:hd l=34):cut l=JX l:=by rw[cut,h,Y7 (by decide),Ye rfl]
theorem zkd {l:Bs} (c:Jl (hd l)=false) (g:hd l≠34) (h:zek (hd l)=true):cut l=zaw l:=by
 rw[cut,Y7 (by rw[c];decide),Y7 g,Ye h]
theorem zkc {l:Bs} (c:Jl (hd l)=false) (g:hd l≠34) (h:zek (hd l)=false):cut l=zau l:=by
 rw[cut,Y7 (by rw[c];decide),Y7 g,Y7 (by rw[h];decide)]
theorem JB {t:Tok} (c:t.2.1≠4) (g:t.2.1≠5):J5 t=t.2.2.1:=by rw[J5,Y7 c,Y7 g]
theorem zd2 {a:Nat} {s:Bs} (u:Nat):J5 (a,4,s,(u:Int))=decDigits u:=by
 rw[J5,Ye rfl,itoa,Y7 (by simp)];rfl
theorem zbl {a:Nat} {s:Bs} {v:Int}:J5 (a,5,s,v)=quote s:=by
 rw[J5,Y7 (by simp),Ye rfl]
theorem Halt.name {k:Int} {s r:Bs} (h:Halt k s r) (c:k=1∨k=2∨k=3∨k=4):r=[]∨JG (hd r)=false:=or_map h id fun h=>h.1 c
theorem self_of {l s:Bs} {k v:Int} {m:Nat} (g:zaa (hd l)=true) (j:l≠[]) (h:cut l=.inr (k,s,v,m)) (hm:m=l.length):JQ k l=true:=by
 cases l with
 | nil=>exact absurd rfl j
 | cons c t=>simp[JQ,g,h,hm]
theorem cut_is {l:Bs} {k v:Int} {s:Bs} {m:Nat} (M:l≠[]) (Z:zaa (hd l)=true) (h:cut l=.inr (k,s,v,m)) :
  ∃r,l=J5 (0,k,s,v)++r/\m=(J5 (0,k,s,v)).length/\sound (0,k,s,v)=true/\0<=v/\v<=9223372036854775807/\1<=m/\Halt k s r:=by
 obtain⟨c,t,rfl⟩:=YX M;by_cases I:Jl (hd (c::t))=true
 ·rw[zlg I]at h;obtain⟨rfl,rfl,u,rfl,hu,J,h4,h5,h6⟩:=num_is (c:=c) I h;rw[zd2];refine⟨(c::t).drop m,by rw[<-J,Xl],h4,?_,by omega,by omega,?_,or_map h6 id fun h=>⟨fun _=>h,by omega⟩⟩
  ·simp[sound]
  ·have:=List.length_pos_iff.2 (zl9 u);omega
 ·have I:Jl (hd (c::t))=false:=(Yb _).mp I;by_cases L:hd (c::t)=34
  ·rw[zkn L]at h;unfold JX at h
   split at h
   ·cases h
   ·rename_i s' n he
    cases h
    obtain⟨q,r,e1,e2,e3,e4⟩:=text_is _ _ _ _ _ he;simp only[Xc]at e1;subst e1;have hc:c=34:=UInt8.toNat_inj.mp (by have e:(c.toNat:Int)=34:=L;simpa using(by omega:c.toNat=34));have aa:t=zh6 s++34::r:=e3;rw[zbl];refine⟨r,by rw[hc,aa,quote];simp,by rw[quote];simp;omega,by simp[sound,e2],by omega,by omega,by omega,.inr ⟨by omega,by omega⟩⟩
  ·by_cases J:zek (hd (c::t))=true
   ·rw[zkd I L J]at h;obtain⟨rfl,rfl,g,ab,ac,hh⟩:=sign_is M h;rw[JB (by simp) (by simp)];have x:s.length=m:=by rw[g];simp at ac ⊢;omega
    have U:s≠[]:=fun e=>by rw[e]at x;simp at x;omega
    have G:hd s=hd (c::t):=by
     rw[g];obtain⟨j,rfl⟩:∃j,m=j+1:=⟨m-1,by omega⟩
     rfl
    have V:JQ 6 s=true:=by
     have e:=sign_again M h (.inl rfl:Halt 6 s []);rw[X7,<-g]at e;exact self_of (by rw[G];exact Z) U (by rw[zkd (by rw[G];exact I) (by rw[G];exact L) (by rw[G];exact J)];exact e) x.symm
    refine⟨(c::t).drop m,?_,x.symm,by simp[sound,V],by omega,by omega,ab,hh⟩;have e:=Xl m (c::t);rw[<-g]at e;exact e.symm
   ·have J:zek (hd (c::t))=false:=(Yb _).mp J;rw[zkc I L J]at h;obtain⟨rfl,hm,hk,g,rfl⟩:=name_is h;have ad:1+Jt JG t<=32:=hm;have ae:=zld s;rw[<-hk]at ae;rw[JB (by show k≠4;omega) (by show k≠5;omega)];have x:s.length=1+Jt JG t:=by rw[g];have:=ze5 JG t;simp;omega
    have U:s≠[]:=fun e=>by rw[e]at x;simp at x;omega
    have G:hd s=hd (c::t):=by
     rw[g,show 1+Jt JG (c::t).tail=Jt JG t+1 from by simp;omega]
     rfl
    have V:JQ k s=true:=by
     have e:=name_again (c:=c) ad (.inl rfl:([]:Bs)=[]∨JG (hd [])=false);have Y:s=(c::t).take (1+Jt JG t):=g;rw[X7,<-Y,<-hk]at e;exact self_of (by rw[G];exact Z) U (by rw[zkc (by rw[G];exact I) (by rw[G];exact L) (by rw[G];exact J)];exact e) x.symm
    refine⟨(c::t).drop (1+Jt JG t),?_,x.symm,?_,by omega,by omega,by omega,?_⟩
    ·have e:=Xl (1+Jt JG t) (c::t);have Y:s=(c::t).take (1+Jt JG t):=g;rw[<-Y]at e;exact e.symm
    ·have af:k=1∨k=2∨k=3∨k=6:=by omega
     simp[sound,af,V]
    ·have:=run_rest JG t;rw[Nat.add_comm,List.drop_succ_cons];exact or_map this id fun h=>⟨fun _=>h,by omega⟩
theorem sound_cut {t:Tok} {r:Bs} (g:sound t=true) (hv:t.2.2.2<=9223372036854775807) (L:Halt t.2.1 t.2.2.1 r) :
  J5 t≠[]/\zaa (hd (J5 t))=true/\cut (J5 t++r)=.inr (t.2.1,t.2.2.1,t.2.2.2,(J5 t).length):=by
 obtain⟨a,k,s,v⟩:=t;simp only at hv L ⊢;unfold sound at g;simp only at g
 split at g
 ·rename_i M;rw[Yc]at g;obtain⟨ab,j⟩:=g;obtain rfl:v=0:=by simpa using ab
  rw[JB (by show k≠4;omega) (by show k≠5;omega)];simp only
  cases s with
  | nil=>simp[JQ]at j
  | cons c t=>
   unfold JQ at j;simp only[Yc]at j;obtain⟨hb,j⟩:=j;refine⟨by simp,hb,?_⟩;have G:hd (c::t++r)=hd (c::t):=rfl
   split at j
   ·cases j
   ·rename_i k' s' v' n h;simp only[Yc,Xn]at j;obtain⟨U,rfl⟩:=j;by_cases x:Jl (hd (c::t))=true
    ·rw[zlg x]at h;have:=(num_is (c:=c) x h).1;omega
    ·have x:Jl (hd (c::t))=false:=(Yb _).mp x;by_cases J:hd (c::t)=34
     ·rw[zkn J]at h;unfold JX at h
      split at h
      ·cases h
      ·cases h;omega
     ·by_cases I:zek (hd (c::t))=true
      ·rw[zkd x J I]at h;obtain⟨rfl,rfl,g,_,_,_⟩:=sign_is (by simp) h;rw[U,Yr]at g;rw[g]at h;have e:=sign_again (by simp) h L;rw[U,Yr]at e;rw[zkd (by rw[G];exact x) (by rw[G];exact J) (by rw[G];exact I),e]
      ·have I:zek (hd (c::t))=false:=(Yb _).mp I;rw[zkc x J I]at h;obtain⟨hm,ae,V,g,rfl⟩:=name_is h;rw[U,Yr]at g;have ac:n=1+Jt JG t:=hm;have ad:=zld s';rw[<-V]at ad;have e:=name_again (c:=c) (t:=t) (r:=r) (by omega) (L.name (by omega));rw[<-ac,U,Yr]at e;rw[zkc (by rw[G];exact x) (by rw[G];exact J) (by rw[G];exact I),e,V,g]
 ·split at g
  ·rename_i M;subst M;simp only[Yc,Xb,List.isEmpty_iff]at g;obtain⟨rfl,Y⟩:=g;obtain⟨u,rfl⟩:∃u:Nat,v=u:=⟨v.toNat,by omega⟩
   rw[zd2];have Z:Jl (hd (decDigits u))=true:=by
    obtain⟨c,t,aa⟩:=YX (zl9 u);have:=dec_digit u c (by rw[aa];simp);rw[aa];exact this
   refine⟨zl9 u,by simp[zaa,Z],?_⟩;rw[zlg (by rw[hd_app _ (zl9 u)];exact Z),num_again u r (by omega) (L.name (by omega))]
  ·split at g
   ·rename_i M;subst M;simp only[Yc,Xn]at g;obtain⟨rfl,Y⟩:=g;rw[zbl];refine⟨by simp[quote],by rfl,?_⟩;have e:quote s++r=34::(zh6 s++34::r):=by simp[quote]
    rw[e,zkn rfl];unfold JX;rw[List.tail_cons,text_again s r 1 [] Y];simp[quote];omega
   ·cases g
end Lx
namespace Lx
open Lib
def Lay:Bs->Nat->List Tok->Prop
 | l,_,[]=>l.drop (skip l)=[]
 | l,a,t::c=>l.drop (skip l)≠[]/\zaa (hd (l.drop (skip l)))=true/\t.1=a+skip l/\∃m,cut (l.drop (skip l))=.inr (t.2.1,t.2.2.1,t.2.2.2,m)/\Lay (l.drop (skip l+m)) (a+skip l+m) c
theorem Lay.done (l:Bs) (a:Nat) (h:l.drop (skip l)=[]):Lay l a []:=h
theorem Lay.tok (l:Bs) (a:Nat) (k v:Int) (s:Bs) (m:Nat) (c:List Tok) (g:l.drop (skip l)≠[]) (h:zaa (hd (l.drop (skip l)))=true) (j:cut (l.drop (skip l))=.inr (k,s,v,m))
  (r:Lay (l.drop (skip l+m)) (a+skip l+m) c):Lay l a ((a+skip l,k,s,v)::c):=⟨g,h,rfl,m,j,r⟩
theorem Lay.back {l:Bs} {a:Nat} {c:List Tok} (h:Lay l a c):(l.drop (skip l)=[]/\c=[]) ∨
  ∃k v s m us,l.drop (skip l)≠[]/\zaa (hd (l.drop (skip l)))=true/\cut (l.drop (skip l))=.inr (k,s,v,m)/\Lay (l.drop (skip l+m)) (a+skip l+m) us/\c=(a+skip l,k,s,v)::us:=by
 cases c with
 | nil=>exact .inl ⟨h,rfl⟩
 | cons t us=>
  obtain⟨p,k,s,v⟩:=t;obtain⟨g,j,he,m,r,u⟩:=h;have x:p=a+skip l:=he;subst x;exact .inr ⟨k,v,s,m,us,g,j,r,u,rfl⟩
theorem Lay.ind {motive:∀(l:Bs) (a:Nat) (c:List Tok),Lay l a c->Prop} (done:∀(l:Bs) (a:Nat) (h:l.drop (skip l)=[]),motive l a [] (Lay.done l a h))
  (tok:∀(l:Bs) (a:Nat) (k v:Int) (s:Bs) (m:Nat) (c:List Tok) (j:l.drop (skip l)≠[]) (r:zaa (hd (l.drop (skip l)))=true) (u:cut (l.drop (skip l))=.inr (k,s,v,m))
   (g:Lay (l.drop (skip l+m)) (a+skip l+m) c),motive _ _ c g->motive l a ((a+skip l,k,s,v)::c) (Lay.tok l a k v s m c j r u g)) :
  ∀{l:Bs} {a:Nat} {c:List Tok} (h:Lay l a c),motive l a c h:=by
 intro l a c
 induction c generalizing l a with
 | nil=>exact fun h=>done l a h
 | cons t us x=>
  intro h;obtain⟨p,k,s,v⟩:=t;have G:=h;obtain⟨j,r,he,m,u,g⟩:=G;have I:p=a+skip l:=he;subst I;exact tok l a k v s m us j r u g (x g)
theorem cut_size {l:Bs} {k v:Int} {s:Bs} {m:Nat} (c:l≠[]) (g:zaa (hd l)=true) (h:cut l=.inr (k,s,v,m)):1<=m/\m<=l.length:=by
 obtain⟨r,j,u,_,_,_,t,_⟩:=cut_is c g h;refine⟨t,?_⟩;rw[j,Y9];omega
theorem lexF_of_lay {l:Bs} {a:Nat} {c:List Tok} (h:Lay l a c):∀f n,l.length<f->n+c.length<=4096->lexF f l a n=(c,none):=by
 induction h using Lay.ind with
 | done l a h=>
  intro f n u _;obtain⟨f,rfl⟩:∃g,f=g+1:=⟨f-1,by omega⟩
  rw[lexF,Ye h]
 | tok l a k v s m c j r t J x=>
  intro f n u G;obtain⟨f,rfl⟩:∃g,f=g+1:=⟨f-1,by omega⟩
  obtain⟨L,I⟩:=cut_size j r t;simp only[Yk]at G;rw[lexF,Y7 j,next,Y7 (by rw[r];decide),Y7 (by omega),t];simp only;rw[x f (n+1) (by simp at I ⊢;omega) (by omega)]
theorem zl0:∀(f:Nat) (l:Bs) (a n:Nat) (g:List Tok),lexF f l a n=(g,none)->l.length<f->Lay l a g/\(g=[]∨n+g.length<=4096)
 | 0,l,a,n,g,_,u=>by omega
 | f+1,l,a,n,g,h,u=>by
  rw[lexF]at h
  split at h
  ·rename_i j
   cases h
   exact⟨.done l a j,.inl rfl⟩
  ·rename_i j
   split at h
   ·cases h
   ·rename_i k s v m c;have r:zaa (hd (l.drop (skip l)))=true:=by
     rcases Bool.eq_false_or_eq_true (zaa (hd (l.drop (skip l))))with e|e
     ·exact e
     ·rw[next,Ye e]at c;cases c
    rw[next,Y7 (by rw[r];decide)]at c
    split at c
    ·cases c
    ·rename_i L;obtain⟨M,x⟩:=cut_size j r c;generalize G:lexF f (l.drop (skip l+m)) (a+skip l+m) (n+1)=R at h;obtain⟨I,e⟩:=R;simp only[Prod.mk.injEq]at h;obtain⟨rfl,rfl⟩:=h;obtain⟨J,t⟩:=zl0 f _ _ _ _ G (by simp at x ⊢;omega);refine⟨.tok l a k v s m I j r c J,.inr ?_⟩;rcases t with rfl|t
     ·simp;omega
     ·simp;omega
theorem lex_ok {l:Bs} {c:List Tok} (h:lex l=(c,none)):l.length<=65536/\Lay l 0 c/\c.length<=4096:=by
 unfold lex at h
 split at h
 ·cases h
 ·rename_i r;obtain⟨j,g⟩:=zl0 _ _ _ _ _ h (by omega);refine⟨by omega,j,?_⟩;rcases g with rfl|g
  ·simp
  ·omega
theorem lex_of {l:Bs} {c:List Tok} (g:l.length<=65536) (h:Lay l 0 c) (j:c.length<=4096):lex l=(c,none):=by
 rw[lex,Y7 (by omega)];exact lexF_of_lay h _ _ (by omega) (by omega)
theorem begin_skip {x:Bs} (h:zaa (hd x)=true):skip x=0/\x.head?≠some 47:=by
 cases x with
 | nil=>exact⟨rfl,by simp⟩
 | cons c r=>
  have j:zaa (c.toNat:Int)=true:=h;have s:c≠47:=by rintro rfl;revert j;decide
  have g:zfv (c.toNat:Int)=false:=by
   rw[Bool.eq_false_iff];intro g;simp only[zfv,Bool.or_eq_true,Xn]at g;rcases g with((g|g)|g)|g <;> (rw[g]at j;revert j;decide)
  refine⟨?_,by simpa using s⟩;rw[skip,zd5,Y7 (by rw[g];decide),Y7 (fun h=>s h.1)]
end Lx
namespace Lx
open Lib
theorem escs_le (q:Bs):q.length<=(zh6 q).length:=by
 induction q with
 | nil=>simp
 | cons c q g=>
  rw[zbn,Y9,Yk];have:1<=(zm0 c).length:=by
   unfold zm0
   repeat' split
   all_goals simp
  omega
theorem own_le {t:Tok} (h:sound t=true):t.2.2.1.length<=(J5 t).length:=by
 obtain⟨a,k,s,v⟩:=t;by_cases c:k=4
 ·subst c;simp[sound]at h;simp[h.1]
 ·by_cases g:k=5
  ·subst g;rw[zbl,quote];have:=escs_le s;simp;omega
  ·rw[JB c g];exact Y5 _
theorem join_one {t:Tok} (c:sound t=true) (g:(J5 t).length<=65536):join [t]=.inr (J5 t):=by
 have:=own_le c;have e:zej [t] 0 []=some (J5 t):=by
  simp only[zej,Nat.lt_irrefl,if_false,X7,X8,Xc,X3];rw[Y7 (by omega),Y7 (by omega)]
 rw[join,Y7 (by simp[c]),e];simp
def zf4 (c:List Tok):Bs:=c.flatMap fun t=>32::J5 t
theorem joinW_is:∀(c:List Tok) (i:Nat) (acc l:Bs),0<i->zej c i acc=some l->l=acc++zf4 c/\(acc.length<=65536->l.length<=65536)
 | [],i,acc,l,_,h=>by cases h;simp[zf4]
 | t::r,i,acc,l,g,h=>by
  rw[zej,Ye g]at h
  split at h
  ·cases h
  ·split at h
   ·cases h
   ·rename_i _ u;obtain⟨j,s⟩:=joinW_is r (i+1) _ l (by omega) h;refine⟨by rw[j];simp[zf4],fun _=>s (by omega)⟩
def mixed (gs:List (Bs×Tok)):Bs:=gs.flatMap fun p=>p.1++J5 p.2
end Lx
namespace Lx
open Lib
theorem num_sound (u:Nat):sound (0,4,[],(u:Int))=true:=by simp[sound]
end Lx
end Go.Proofs.YtdcbglnhhbmpgaaGreatDoor
namespace Go.Proofs.YtdcbglnhhbmpgaaGreatDoor
namespace Lx
open Lib
end Lx
end Go.Proofs.YtdcbglnhhbmpgaaGreatDoor
