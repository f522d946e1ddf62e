import Derived.Test.YtdamlfkieecnjaaGreatDoorQPMem
import Derived.Shelf.Strings.BuilderK
import Derived.Lib.ItoaLen
import Derived.Lib.AppendIntMem
import Derived.WalkSmall
set_option maxHeartbeats 4000000
set_option maxRecDepth 100000
namespace Go.Proofs.YtdamlfkieecnjaaGreatDoor
namespace Lx
def sayB (c:UInt8):Bool:=c==10||zae (c.toNat:Int)
def zej (l:Bs):Bool:=l.all sayB
def zdc (k:Int) (l:Bs):Bool:=
 match l with
 | []=>false
 | _=>Jq (hd l)&&(match cut l with
  | .inl _=>false
  | .inr (k',_,_,n)=>n==l.length&&k'==k)
def sound (t:Tok):Bool:=
 if t.2.1=1∨t.2.1=2∨t.2.1=3∨t.2.1=6 then t.2.2.2==0&&zdc t.2.1 t.2.2.1
 else if t.2.1=4 then t.2.2.1.isEmpty&&decide (0<=t.2.2.2)
 else if t.2.1=5 then t.2.2.2==0&&zej t.2.2.1 else false
theorem zdu (c:UInt8) (r:Bs):zej (c::r)=(sayB c&&zej r):=by simp[zej]
end Lx
open Go Go.RowKit Lx
theorem zak (s:ByteArray):s.data.toList.length=s.size:=by simp
theorem toList_data (s:ByteArray):s.toList=s.data.toList:=by
 have h:=Lib.extract_toList s 0 s.size;have e:s.extract 0 s.size=s:=by
  apply ByteArray.ext;apply Array.ext';simp
 rw[e,List.drop_zero,List.take_of_length_le (by rw[zak];omega)]at h;exact h
theorem ne_nil_of {s:ByteArray} (h:¬s.size=0):s.data.toList≠[]:=fun e=>h (by rw[<-zak,e];rfl)
theorem not_empty_of {s:ByteArray} (h:¬s.size=0):s.toList.isEmpty=false:=by
 rw[toList_data]
 cases hd:s.data.toList with
 | nil=>exact absurd hd (ne_nil_of h)
 | cons c r=>rfl
theorem zb3 {a b:Bool} (h:a=b):Ending.returned (.bool a)=.returned (.bool b):=by rw[h]
open Go Go.RowKit Go.Shelf Go.Proofs
namespace Lx
def esc1 (c:UInt8):Bs:=if c=10 then[92,110]else if c=34 then[92,34]else if c=92 then[92,92]else[c]
def escs (l:Bs):Bs:=l.flatMap esc1
def quote (l:Bs):Bs:=34::(escs l++[34])
theorem zc3 (c:UInt8) (r:Bs):escs (c::r)=esc1 c++escs r:=by simp[escs]
end Lx
namespace Lx
def Js (t:Tok):Bs:=if t.2.1=4 then Lib.itoa t.2.2.2 else if t.2.1=5 then quote t.2.2.1 else t.2.2.1
end Lx
abbrev Tab (w:World):Prop:=Lib.TabIs Tryz.prog w "internal/strconv.uint64pow10" .u64 Lib.pow10Tab
theorem tab_global:Tryz.prog.globalNamed "internal/strconv.uint64pow10" = some 1:=by kernel_rfl
theorem Tab.below {B:Nat} {w w':World} (h:Tab w) (hb:Below B w w') (hB:4<=B):Tab w':=var?_below hb tab_global (by omega) h
theorem Itoa_any (n:Int) (h0:-9223372036854775808<=n) (h1:n<=9223372036854775807) (w:World) (ht:Tab w) :
  Calls Tryz.prog 105 #[.int .i64 n] w fun e w'=>e=.returned (.string ⟨(Lib.itoa n).toArray⟩)/\Below w.heap.size w w':=by
 refine(Tryz.strconv_Itoa n h0 h1 w ht).mono ?_;rintro e w' ⟨rfl,k,os,rfl⟩;exact⟨rfl,Lib.below_grow _ w (Nat.le_refl _) k os⟩
namespace Lx
def joinW:List Tok->Nat->Bs->Option Bs
 | [],_,acc=>some acc
 | t::r,i,acc=>
  if 65536<(acc++(if 0<i then[32]else[])).length+t.2.2.1.length then none
  else if 65536<((acc++(if 0<i then[32]else[]))++Js t).length then none
  else joinW r (i+1) ((acc++(if 0<i then[32]else[]))++Js t)
def join (ts:List Tok):Sum Nat Bs:=
 if ts.all sound=false then .inl 1 else
 match joinW ts 0 []with
 | none=>.inl 2
 | some l=>if 4096<ts.length then .inl 3 else .inr l
end Lx
end Go.Proofs.YtdamlfkieecnjaaGreatDoor
namespace Go.Proofs.YtdamlfkieecnjaaGreatDoor
open Go Go.RowKit Lx
end Go.Proofs.YtdamlfkieecnjaaGreatDoor
namespace Go.Proofs.YtdamlfkieecnjaaGreatDoor
namespace Lx
def Halt (k:Int) (s r:Bs):Prop:=r=[]∨((k=1∨k=2∨k=3∨k=4->Ji (hd r)=false)/\(k=6->s=[61]->hd r≠61))
theorem or_map {a b c d:Prop} (h:a∨b) (f:a->c) (g:b->d):c∨d:=by
 rcases h with h|h
 ·exact .inl (f h)
 ·exact .inr (g h)
theorem run0 (p:Int->Bool) (r:Bs) (h:r=[]∨p (hd r)=false):Jf p r=0:=by
 cases r with
 | nil=>rfl
 | cons c t=>exact zb1 p c t (h.resolve_left (by simp))
theorem run_stop (p:Int->Bool):∀(l r:Bs),(r=[]∨p (hd r)=false)->Jf p (l.take (Jf p l)++r)=Jf p l
 | [],r,h=>by simpa[runLen_nil]using run0 p r h
 | c::t,r,h=>by
  by_cases hc:p (c.toNat:Int)=true
  ·rw[JT p c t hc,Nat.add_comm,List.take_succ_cons,List.cons_append,JT p c _ hc,run_stop p t r h,Nat.add_comm]
  ·rw[zb1 p c t ((Bool.not_eq_true _).mp hc)];simpa using run0 p r h
theorem run_rest (p:Int->Bool):∀(l:Bs),l.drop (Jf p l)=[]∨p (hd (l.drop (Jf p l)))=false
 | []=>.inl (by simp)
 | c::t=>by
  by_cases hc:p (c.toNat:Int)=true
  ·rw[JT p c t hc,Nat.add_comm,List.drop_succ_cons];exact run_rest p t
  ·have hc:=(Bool.not_eq_true _).mp hc;rw[zb1 p c t hc];exact .inr hc
theorem run_all (p:Int->Bool):∀(l:Bs),∀c∈l.take (Jf p l),p (c.toNat:Int)=true
 | [],c,h=>by simp at h
 | d::t,c,h=>by
  by_cases hd:p (d.toNat:Int)=true
  ·rw[JT p d t hd,Nat.add_comm,List.take_succ_cons,List.mem_cons]at h;rcases h with rfl|h
   ·exact hd
   ·exact run_all p t c h
  ·rw[zb1 p d t ((Bool.not_eq_true _).mp hd)]at h;simp at h
theorem take_take_app {n:Nat} {l:Bs} (r:Bs) (h:n<=l.length):(l.take n++r).take n=l.take n:=by
 rw[List.take_append_of_le_length (by simp;omega),List.take_take,Nat.min_self]
theorem kind_of (s:Bs):kindOf s=1∨kindOf s=2∨kindOf s=3:=by
 unfold kindOf;repeat' split
 all_goals simp
theorem name_is {l:Bs} {k v:Int} {s:Bs} {m:Nat} (h:Jv l=.inr (k,s,v,m)):m=1+Jf Ji l.tail/\m<=32/\k=kindOf s/\s=l.take m/\v=0:=by
 unfold Jv at h
 split at h
 ·cases h
 ·cases h;exact⟨rfl,by omega,rfl,rfl,rfl⟩
theorem name_again {c:UInt8} {t r:Bs} (hm:1+Jf Ji t<=32) (hr:r=[]∨Ji (hd r)=false) :
  Jv ((c::t).take (1+Jf Ji t)++r)=.inr (kindOf ((c::t).take (1+Jf Ji t)),(c::t).take (1+Jf Ji t),0,1+Jf Ji t):=by
 have e:(c::t).take (1+Jf Ji t)++r=c::(t.take (Jf Ji t)++r):=by rw[Nat.add_comm,List.take_succ_cons];rfl
 have hl:=zam Ji t;have e2:Jf Ji ((c::t).take (1+Jf Ji t)++r).tail=Jf Ji t:=by rw[e];exact run_stop Ji t r hr
 have e3:((c::t).take (1+Jf Ji t)++r).take (1+Jf Ji t)=(c::t).take (1+Jf Ji t):=take_take_app r (by simp;omega);unfold Jv;rw[e2,e3,if_neg (by omega)]
theorem sign_is {l:Bs} {k v:Int} {s:Bs} {m:Nat} (hl:l≠[]) (h:JC l=.inr (k,s,v,m)):k=6/\v=0/\s=l.take m/\1<=m/\m<=l.length/\Halt k s (l.drop m):=by
 unfold JC at h
 split at h
 case isTrue hp=>
  cases h
  match l,hp with
  | [],hp=>simp[List.isPrefixOf]at hp
  | [c],hp=>simp[List.isPrefixOf]at hp
  | c::d::r,hp=>
   refine⟨rfl,rfl,rfl,by omega,by simp,.inr ⟨by omega,fun _ h=>?_⟩⟩;simp at h
 case isFalse hp=>
  cases h
  match l,hp with
  | [],_=>exact absurd rfl hl
  | c::r,hp=>
   refine⟨rfl,rfl,rfl,by omega,by simp,?_⟩
   cases r with
   | nil=>exact .inl rfl
   | cons d r=>
    refine .inr ⟨by omega,fun _ h e=>hp ?_⟩;have hc:c=61:=by simpa using h
    have hd':d=61:=by
     have e':(d.toNat:Int)=61:=e;exact UInt8.toNat_inj.mp (by simpa using(by omega:d.toNat=61))
    subst hc hd';simp[List.isPrefixOf]
theorem sign_again {l:Bs} {k v:Int} {s r:Bs} {m:Nat} (hl:l≠[]) (h:JC l=.inr (k,s,v,m)) (hr:Halt k s r):JC (l.take m++r)=.inr (k,s,v,m):=by
 unfold JC at h
 split at h
 case isTrue hp=>
  cases h
  match l,hp with
  | [],hp=>simp[List.isPrefixOf]at hp
  | [c],hp=>simp[List.isPrefixOf]at hp
  | c::d::t,hp=>
   simp[List.isPrefixOf]at hp;obtain⟨rfl,rfl⟩:=hp;simp[JC,List.isPrefixOf]
 case isFalse hp=>
  cases h
  match l,hp with
  | [],_=>exact absurd rfl hl
  | c::t,hp=>
   have:[61,61].isPrefixOf (c::r)=false:=by
    cases r with
    | nil=>simp[List.isPrefixOf]
    | cons d r=>
     rcases hr with hr|hr
     ·cases hr
     ·rw[Bool.eq_false_iff];intro hq;simp[List.isPrefixOf]at hq;obtain⟨rfl,rfl⟩:=hq;exact hr.2 rfl rfl rfl
   show JC (c::r)=_;unfold JC;rw[if_neg (by rw[this];decide)];simp
theorem sayB_esc {d:UInt8} (h:zbu (d.toNat:Int)=true):∃c:UInt8,sayB c=true/\esc1 c=[92,d]/\(escB (d.toNat:Int)).toNat.toUInt8=c:=by
 have:d=110∨d=34∨d=92:=by
  simp[zbu]at h;rcases h with(h|h)|h
  ·exact .inl (UInt8.toNat_inj.mp (by simpa using(by omega:d.toNat=110)))
  ·exact .inr (.inl (UInt8.toNat_inj.mp (by simpa using(by omega:d.toNat=34))))
  ·exact .inr (.inr (UInt8.toNat_inj.mp (by simpa using(by omega:d.toNat=92))))
 rcases this with rfl|rfl|rfl
 ·exact⟨10,by decide,by decide,by decide⟩
 ·exact⟨34,by decide,by decide,by decide⟩
 ·exact⟨92,by decide,by decide,by decide⟩
theorem text_end (r:Bs) (i:Nat) (acc:Bs):textF (34::r) i acc=.inr (acc,i+1):=by rw[textF.eq_def];rfl
theorem text_esc (d:UInt8) (r:Bs) (i:Nat) (acc:Bs) (h:zbu (d.toNat:Int)=true):textF (92::d::r) i acc=textF r (i+2) (acc++[(escB (d.toNat:Int)).toNat.toUInt8]):=by
 rw[textF.eq_def];simp only;rw[if_neg (by decide),if_pos trivial,if_pos h]
theorem text_plain (c:UInt8) (r:Bs) (i:Nat) (acc:Bs) (h34:c≠34) (h92:c≠92) (h:zae (c.toNat:Int)=true):textF (c::r) i acc=textF r (i+1) (acc++[c]):=by
 rw[textF.eq_def];simp only;rw[if_neg h34,if_neg h92,if_pos h]
theorem text_is:∀(l:Bs) (i:Nat) (acc s:Bs) (n:Nat),textF l i acc=.inr (s,n)->∃q r,s=acc++q/\zej q=true/\l=escs q++34::r/\n=i+(escs q).length+1
 | [],i,acc,s,n,h=>by rw[textF.eq_def]at h;cases h
 | [c],i,acc,s,n,h=>by
  by_cases h34:c=34
  ·subst h34;rw[text_end]at h;cases h;exact⟨[],[],by simp,rfl,rfl,by simp[escs]⟩
  ·by_cases h92:c=92
   ·subst h92;rw[textF.eq_def]at h;simp only at h;rw[if_neg (by decide),if_pos trivial]at h
    cases h
   ·by_cases hp:zae (c.toNat:Int)=true
    ·rw[text_plain c _ _ _ h34 h92 hp,textF.eq_def]at h;cases h
    ·rw[textF.eq_def]at h;simp only at h;rw[if_neg h34,if_neg h92,if_neg hp]at h
     cases h
 | c::d::r,i,acc,s,n,h=>by
  have ih1:=text_is (d::r);have ih2:=text_is r;by_cases h34:c=34
  ·subst h34;rw[text_end]at h;cases h;exact⟨[],d::r,by simp,rfl,rfl,by simp[escs]⟩
  ·by_cases h92:c=92
   ·subst h92;by_cases hd:zbu (d.toNat:Int)=true
    ·rw[text_esc _ _ _ _ hd]at h;obtain⟨q,r',h1,h2,h3,h4⟩:=ih2 _ _ _ _ h;obtain⟨c,hc1,hc2,hc3⟩:=sayB_esc hd;refine⟨c::q,r',by rw[h1,hc3];simp,by rw[zdu,hc1,h2];rfl,by rw[h3,zc3,hc2];simp,by rw[h4,zc3,hc2];simp;omega⟩
    ·rw[textF.eq_def]at h;simp only at h;rw[if_neg (by decide),if_pos trivial,if_neg hd]at h
     cases h
   ·by_cases hp:zae (c.toNat:Int)=true
    ·rw[text_plain c _ _ _ h34 h92 hp]at h;obtain⟨q,r',h1,h2,h3,h4⟩:=ih1 _ _ _ _ h;have h10:c≠10:=by rintro rfl;revert hp;decide
     have he:esc1 c=[c]:=by simp[esc1,h10,h34,h92]
     refine⟨c::q,r',by rw[h1];simp,by rw[zdu,h2,sayB,hp];simp,by rw[h3,zc3,he];simp,by rw[h4,zc3,he];simp;omega⟩
    ·rw[textF.eq_def]at h;simp only at h;rw[if_neg h34,if_neg h92,if_neg hp]at h
     cases h
end Lx
namespace Lx
open Lib
theorem dec_ne (u:Nat):decDigits u≠[]:=by
 rw[decDigits];split <;> simp
theorem ze2 {c:UInt8} (h:Jd (c.toNat:Int)=true):∃d,d<10/\c=UInt8.ofNat (48+d)/\(c.toNat:Int)-48=d:=by
 simp only[Jd,Bool.and_eq_true,decide_eq_true_eq]at h;refine⟨c.toNat-48,by omega,?_,by omega⟩;apply UInt8.toNat_inj.mp;rw[UInt8.toNat_ofNat'];omega
theorem fold_is:∀(ds:Bs) (n:Nat) (v:Int),1<=n->n<=9223372036854775807->(∀c∈ds,Jd (c.toNat:Int)=true)->JY ds n=some v->∃u:Nat,v=u/\u<=9223372036854775807/\decDigits u=decDigits n++ds
 | [],n,v,_,h1,_,h=>by cases h;exact⟨n,rfl,h1,by simp⟩
 | c::r,n,v,h0,h1,hd,h=>by
  obtain⟨d,hd1,hd2,hd3⟩:=ze2 (hd c (by simp));unfold JY at h;rw[hd3]at h
  split at h
  ·cases h
  ·have e:((n:Int)*10+(d:Int))=((n*10+d:Nat):Int):=by omega
   rw[e]at h;obtain⟨u,h2,h3,h4⟩:=fold_is r (n*10+d) v (by omega) (by omega) (fun c hc=>hd c (by simp[hc])) h;refine⟨u,h2,h3,?_⟩;rw[h4,decDigits,dif_neg (by omega),show(n*10+d) / 10=n from by omega,show(n*10+d) % 10=d from by omega,hd2];simp
theorem number_is (ds:Bs) (v:Int) (h0:ds≠[]) (hd:∀c∈ds,Jd (c.toNat:Int)=true) (h:number ds=some v):∃u:Nat,v=u/\u<=9223372036854775807/\ds=decDigits u:=by
 cases ds with
 | nil=>exact absurd rfl h0
 | cons c r=>
  obtain⟨d,hd1,hd2,hd3⟩:=ze2 (hd c (by simp));unfold number at h
  split at h
  ·cases h
  case isFalse hz=>
   unfold JY at h;rw[hd3]at h
   split at h
   ·cases h
   ·by_cases hd0:d=0
    ·have hr:r=[]:=by
      cases r with
      | nil=>rfl
      | cons x y=>
       exfalso;apply hz;refine⟨?_,by simp⟩;show(c.toNat:Int)=48;omega
     subst hr hd0;rw[show JY [] ((0:Int)*10+((0:Nat):Int))=some 0 from rfl]at h
     cases h
     refine⟨0,rfl,by omega,?_⟩;rw[decDigits,dif_pos (by decide),hd2]
    ·have e:((0:Int)*10+(d:Int))=((d:Nat):Int):=by omega
     rw[e]at h;obtain⟨u,h2,h3,h4⟩:=fold_is r d v (by omega) (by omega) (fun c hc=>hd c (by simp[hc])) h;refine⟨u,h2,h3,?_⟩;rw[h4,decDigits,dif_pos hd1,hd2];rfl
theorem num_is {c:UInt8} {t:Bs} {k v:Int} {s:Bs} {m:Nat} (hc:Jd (c.toNat:Int)=true) (h:Jh (c::t)=.inr (k,s,v,m)) :
  k=4/\s=[]/\∃u:Nat,v=u/\u<=9223372036854775807/\(c::t).take m=decDigits u/\m=(decDigits u).length/\m<=(c::t).length/\((c::t).drop m=[]∨Ji (hd ((c::t).drop m))=false):=by
 unfold Jh at h;have hlen:Jz (c::t)<=(c::t).length:=by have:=zam Jd t;simp[Jz];omega
 split at h
 ·cases h
 ·rename_i v' hn
  split at h
  ·cases h
  ·rename_i hz
   cases h
   have hall:∀x∈(c::t).take (Jz (c::t)),Jd (x.toNat:Int)=true:=by
    intro x hx;have e:Jz (c::t)=Jf Jd t+1:=by simp[Jz];omega
    rw[e,List.take_succ_cons,List.mem_cons]at hx;rcases hx with rfl|hx
    ·exact hc
    ·exact run_all Jd t x hx
   obtain⟨u,h1,h2,h3⟩:=number_is _ _ (by simp[Jz]) hall hn;refine⟨rfl,rfl,u,h1,h2,h3,?_,hlen,?_⟩
   ·rw[<-h3];simp;simp at hlen;omega
   ·by_cases h0:(c::t).drop (Jz (c::t))=[]
    ·exact .inl h0
    ·exact .inr ((Bool.not_eq_true _).mp fun h=>hz ⟨h0,h⟩)
end Lx
namespace Lx
open Lib
theorem cut_digit {l:Bs} (h:Jd (hd l)=true):cut l=Jh l:=by rw[cut,if_pos h]
theorem cut_quote {l:Bs} (h:hd l=34):cut l=Jn l:=by rw[cut,h,if_neg (by decide),if_pos rfl]
theorem cut_sign {l:Bs} (h1:Jd (hd l)=false) (h2:hd l≠34) (h3:zba (hd l)=true):cut l=JC l:=by
 rw[cut,if_neg (by rw[h1];decide),if_neg h2,if_pos h3]
theorem cut_name {l:Bs} (h1:Jd (hd l)=false) (h2:hd l≠34) (h3:zba (hd l)=false):cut l=Jv l:=by
 rw[cut,if_neg (by rw[h1];decide),if_neg h2,if_neg (by rw[h3];decide)]
theorem zcn {t:Tok} (h4:t.2.1≠4) (h5:t.2.1≠5):Js t=t.2.2.1:=by rw[Js,if_neg h4,if_neg h5]
theorem tokText_num {a:Nat} {s:Bs} (u:Nat):Js (a,4,s,(u:Int))=decDigits u:=by
 rw[Js,if_pos rfl,itoa,if_neg (by simp)];rfl
theorem zd2 {a:Nat} {s:Bs} {v:Int}:Js (a,5,s,v)=quote s:=by
 rw[Js,if_neg (by simp),if_pos rfl]
theorem self_of {l s:Bs} {k v:Int} {m:Nat} (hb:Jq (hd l)=true) (h0:l≠[]) (h:cut l=.inr (k,s,v,m)) (hm:m=l.length):zdc k l=true:=by
 cases l with
 | nil=>exact absurd rfl h0
 | cons c t=>simp[zdc,hb,h,hm]
theorem cut_is {l:Bs} {k v:Int} {s:Bs} {m:Nat} (h0:l≠[]) (hb:Jq (hd l)=true) (h:cut l=.inr (k,s,v,m)) :
  ∃r,l=Js (0,k,s,v)++r/\m=(Js (0,k,s,v)).length/\sound (0,k,s,v)=true/\0<=v/\v<=9223372036854775807/\1<=m/\Halt k s r:=by
 obtain⟨c,t,rfl⟩:=List.exists_cons_of_ne_nil h0;by_cases h1:Jd (hd (c::t))=true
 ·rw[cut_digit h1]at h;obtain⟨rfl,rfl,u,rfl,hu,h3,h4,h5,h6⟩:=num_is (c:=c) h1 h;rw[tokText_num];refine⟨(c::t).drop m,by rw[<-h3,List.take_append_drop],h4,?_,by omega,by omega,?_,or_map h6 id fun h=>⟨fun _=>h,by omega⟩⟩
  ·simp[sound]
  ·have:=List.length_pos_iff.2 (dec_ne u);omega
 ·have h1:Jd (hd (c::t))=false:=(Bool.not_eq_true _).mp h1;by_cases h2:hd (c::t)=34
  ·rw[cut_quote h2]at h;unfold Jn at h
   split at h
   ·cases h
   ·rename_i s' n he
    cases h
    obtain⟨q,r,e1,e2,e3,e4⟩:=text_is _ _ _ _ _ he;simp only[List.nil_append]at e1;subst e1;have hc:c=34:=UInt8.toNat_inj.mp (by have e:(c.toNat:Int)=34:=h2;simpa using(by omega:c.toNat=34));have e3':t=escs s++34::r:=e3;rw[zd2];refine⟨r,by rw[hc,e3',quote];simp,by rw[quote];simp;omega,by simp[sound,e2],by omega,by omega,by omega,.inr ⟨by omega,by omega⟩⟩
  ·by_cases h3:zba (hd (c::t))=true
   ·rw[cut_sign h1 h2 h3]at h;obtain⟨rfl,rfl,hs,hm1,hm2,hh⟩:=sign_is h0 h;rw[zcn (by simp) (by simp)];have hsl:s.length=m:=by rw[hs];simp at hm2 ⊢;omega
    have hss:s≠[]:=fun e=>by rw[e]at hsl;simp at hsl;omega
    have hhd:hd s=hd (c::t):=by
     rw[hs];obtain⟨j,rfl⟩:∃j,m=j+1:=⟨m-1,by omega⟩
     rfl
    have hself:zdc 6 s=true:=by
     have e:=sign_again h0 h (.inl rfl:Halt 6 s []);rw[List.append_nil,<-hs]at e;exact self_of (by rw[hhd];exact hb) hss (by rw[cut_sign (by rw[hhd];exact h1) (by rw[hhd];exact h2) (by rw[hhd];exact h3)];exact e) hsl.symm
    refine⟨(c::t).drop m,?_,hsl.symm,by simp[sound,hself],by omega,by omega,hm1,hh⟩;have e:=List.take_append_drop m (c::t);rw[<-hs]at e;exact e.symm
   ·have h3:zba (hd (c::t))=false:=(Bool.not_eq_true _).mp h3;rw[cut_name h1 h2 h3]at h;obtain⟨rfl,hm,hk,hs,rfl⟩:=name_is h;have hm':1+Jf Ji t<=32:=hm;have hkk:=kind_of s;rw[<-hk]at hkk;rw[zcn (by show k≠4;omega) (by show k≠5;omega)];have hsl:s.length=1+Jf Ji t:=by rw[hs];have:=zam Ji t;simp;omega
    have hss:s≠[]:=fun e=>by rw[e]at hsl;simp at hsl;omega
    have hhd:hd s=hd (c::t):=by
     rw[hs,show 1+Jf Ji (c::t).tail=Jf Ji t+1 from by simp;omega]
     rfl
    have hself:zdc k s=true:=by
     have e:=name_again (c:=c) hm' (.inl rfl:([]:Bs)=[]∨Ji (hd [])=false);have hs':s=(c::t).take (1+Jf Ji t):=hs;rw[List.append_nil,<-hs',<-hk]at e;exact self_of (by rw[hhd];exact hb) hss (by rw[cut_name (by rw[hhd];exact h1) (by rw[hhd];exact h2) (by rw[hhd];exact h3)];exact e) hsl.symm
    refine⟨(c::t).drop (1+Jf Ji t),?_,hsl.symm,?_,by omega,by omega,by omega,?_⟩
    ·have e:=List.take_append_drop (1+Jf Ji t) (c::t);have hs':s=(c::t).take (1+Jf Ji t):=hs;rw[<-hs']at e;exact e.symm
    ·have hk4:k=1∨k=2∨k=3∨k=6:=by omega
     simp[sound,hk4,hself]
    ·have:=run_rest Ji t;rw[Nat.add_comm,List.drop_succ_cons];exact or_map this id fun h=>⟨fun _=>h,by omega⟩
end Lx
namespace Lx
open Lib
def Lay:Bs->Nat->List Tok->Prop
 | l,_,[]=>l.drop (skip l)=[]
 | l,a,t::ts=>l.drop (skip l)≠[]/\Jq (hd (l.drop (skip l)))=true/\t.1=a+skip l/\∃m,cut (l.drop (skip l))=.inr (t.2.1,t.2.2.1,t.2.2.2,m)/\Lay (l.drop (skip l+m)) (a+skip l+m) ts
theorem Lay.done (l:Bs) (a:Nat) (h:l.drop (skip l)=[]):Lay l a []:=h
theorem Lay.tok (l:Bs) (a:Nat) (k v:Int) (s:Bs) (m:Nat) (ts:List Tok) (h0:l.drop (skip l)≠[]) (hb:Jq (hd (l.drop (skip l)))=true) (hc:cut (l.drop (skip l))=.inr (k,s,v,m))
  (hl:Lay (l.drop (skip l+m)) (a+skip l+m) ts):Lay l a ((a+skip l,k,s,v)::ts):=⟨h0,hb,rfl,m,hc,hl⟩
theorem Lay.back {l:Bs} {a:Nat} {ts:List Tok} (h:Lay l a ts):(l.drop (skip l)=[]/\ts=[]) ∨
  ∃k v s m us,l.drop (skip l)≠[]/\Jq (hd (l.drop (skip l)))=true/\cut (l.drop (skip l))=.inr (k,s,v,m)/\Lay (l.drop (skip l+m)) (a+skip l+m) us/\ts=(a+skip l,k,s,v)::us:=by
 cases ts with
 | nil=>exact .inl ⟨h,rfl⟩
 | cons t us=>
  obtain⟨p,k,s,v⟩:=t;obtain⟨h0,hb,he,m,hc,hl⟩:=h;have he':p=a+skip l:=he;subst he';exact .inr ⟨k,v,s,m,us,h0,hb,hc,hl,rfl⟩
theorem Lay.ind {motive:∀(l:Bs) (a:Nat) (ts:List Tok),Lay l a ts->Prop} (done:∀(l:Bs) (a:Nat) (h:l.drop (skip l)=[]),motive l a [] (Lay.done l a h))
  (tok:∀(l:Bs) (a:Nat) (k v:Int) (s:Bs) (m:Nat) (ts:List Tok) (h0:l.drop (skip l)≠[]) (hb:Jq (hd (l.drop (skip l)))=true) (hc:cut (l.drop (skip l))=.inr (k,s,v,m))
   (hl:Lay (l.drop (skip l+m)) (a+skip l+m) ts),motive _ _ ts hl->motive l a ((a+skip l,k,s,v)::ts) (Lay.tok l a k v s m ts h0 hb hc hl)) :
  ∀{l:Bs} {a:Nat} {ts:List Tok} (h:Lay l a ts),motive l a ts h:=by
 intro l a ts
 induction ts generalizing l a with
 | nil=>exact fun h=>done l a h
 | cons t us ih=>
  intro h;obtain⟨p,k,s,v⟩:=t;have h':=h;obtain⟨h0,hb,he,m,hc,hl⟩:=h';have he':p=a+skip l:=he;subst he';exact tok l a k v s m us h0 hb hc hl (ih hl)
theorem cut_size {l:Bs} {k v:Int} {s:Bs} {m:Nat} (h0:l≠[]) (hb:Jq (hd l)=true) (h:cut l=.inr (k,s,v,m)):1<=m/\m<=l.length:=by
 obtain⟨r,h1,h2,_,_,_,h3,_⟩:=cut_is h0 hb h;refine⟨h3,?_⟩;rw[h1,List.length_append];omega
theorem lexF_of_lay {l:Bs} {a:Nat} {ts:List Tok} (h:Lay l a ts):∀f n,l.length<f->n+ts.length<=4096->zdq f l a n=(ts,none):=by
 induction h using Lay.ind with
 | done l a h=>
  intro f n hf _;obtain⟨f,rfl⟩:∃g,f=g+1:=⟨f-1,by omega⟩
  rw[zdq,if_pos h]
 | tok l a k v s m ts h0 hb hc hl ih=>
  intro f n hf hn;obtain⟨f,rfl⟩:∃g,f=g+1:=⟨f-1,by omega⟩
  obtain⟨hm1,hm2⟩:=cut_size h0 hb hc;simp only[List.length_cons]at hn;rw[zdq,if_neg h0,next,if_neg (by rw[hb];decide),if_neg (by omega),hc];simp only;rw[ih f (n+1) (by simp at hm2 ⊢;omega) (by omega)]
theorem zez:∀(f:Nat) (l:Bs) (a n:Nat) (ts:List Tok),zdq f l a n=(ts,none)->l.length<f->Lay l a ts/\(ts=[]∨n+ts.length<=4096)
 | 0,l,a,n,ts,_,hf=>by omega
 | f+1,l,a,n,ts,h,hf=>by
  rw[zdq]at h
  split at h
  ·rename_i h0
   cases h
   exact⟨.done l a h0,.inl rfl⟩
  ·rename_i h0
   split at h
   ·cases h
   ·rename_i k s v m hnx;have hb:Jq (hd (l.drop (skip l)))=true:=by
     rcases Bool.eq_false_or_eq_true (Jq (hd (l.drop (skip l))))with e|e
     ·exact e
     ·rw[next,if_pos e]at hnx;cases hnx
    rw[next,if_neg (by rw[hb];decide)]at hnx
    split at hnx
    ·cases hnx
    ·rename_i hn;obtain⟨hm1,hm2⟩:=cut_size h0 hb hnx;generalize hr:zdq f (l.drop (skip l+m)) (a+skip l+m) (n+1)=R at h;obtain⟨ts',e⟩:=R;simp only[Prod.mk.injEq]at h;obtain⟨rfl,rfl⟩:=h;obtain⟨h1,h2⟩:=zez f _ _ _ _ hr (by simp at hm2 ⊢;omega);refine⟨.tok l a k v s m ts' h0 hb hnx h1,.inr ?_⟩;rcases h2 with rfl|h2
     ·simp;omega
     ·simp;omega
theorem lex_ok {l:Bs} {ts:List Tok} (h:lex l=(ts,none)):l.length<=65536/\Lay l 0 ts/\ts.length<=4096:=by
 unfold lex at h
 split at h
 ·cases h
 ·rename_i hl;obtain⟨h1,h2⟩:=zez _ _ _ _ _ h (by omega);refine⟨by omega,h1,?_⟩;rcases h2 with rfl|h2
  ·simp
  ·omega
theorem lex_of {l:Bs} {ts:List Tok} (hl:l.length<=65536) (h:Lay l 0 ts) (hn:ts.length<=4096):lex l=(ts,none):=by
 rw[lex,if_neg (by omega)];exact lexF_of_lay h _ _ (by omega) (by omega)
theorem lex_ok' {l:Bs} (h:(lex l).2=none):l.length<=65536/\Lay l 0 (lex l).1/\(lex l).1.length<=4096:=lex_ok (by rw[<-h])
theorem skipN_nl:∀(g:Bs) (f:Bool) (x:Bs),JI f g=g.length->JI f (g++10::x)=g.length+1+skip x
 | [],true,x,_=>by simp[JI,skip]
 | [],false,x,_=>by simp[JI,skip,zaq]
 | c::r,true,x,h=>by
  have ih:=fun f=>skipN_nl r f x
  rw[List.cons_append,JI];rw[JI,List.length_cons]at h;rw[List.length_cons]
  split at h
  ·rw[if_pos (by assumption),ih false (by omega)];omega
  ·rw[if_neg (by assumption),ih true (by omega)];omega
 | c::r,false,x,h=>by
  have ih:=fun f=>skipN_nl r f x
  rw[List.cons_append,JI];rw[JI,List.length_cons]at h;rw[List.length_cons]
  split at h
  ·rw[if_pos (by assumption),ih false (by omega)];omega
  ·rw[if_neg (by assumption)]
   split at h
   ·rename_i h2;have h3:c=47/\(r++10::x).head?=some 47:=by
     refine⟨h2.1,?_⟩
     cases r with
     | nil=>simp at h2
     | cons d r=>exact h2.2
    rw[if_pos h3,ih true (by omega)];omega
   ·omega
theorem zcu:∀(g:Bs) (f:Bool) (x:Bs),JI f (g++x)=g.length->x.head?≠some 47->JI f g=g.length
 | [],f,x,_,_=>by cases f <;> simp[JI]
 | c::r,true,x,h,hx=>by
  have ih:=fun f=>zcu r f x
  rw[List.cons_append,JI,List.length_cons]at h;rw[JI,List.length_cons]
  split at h
  ·rw[if_pos (by assumption),ih false (by omega) hx];omega
  ·rw[if_neg (by assumption),ih true (by omega) hx];omega
 | c::r,false,x,h,hx=>by
  have ih:=fun f=>zcu r f x
  rw[List.cons_append,JI,List.length_cons]at h;rw[JI,List.length_cons]
  split at h
  ·rw[if_pos (by assumption),ih false (by omega) hx];omega
  ·rw[if_neg (by assumption)]
   split at h
   ·rename_i h2;have h3:c=47/\r.head?=some 47:=by
     refine⟨h2.1,?_⟩
     cases r with
     | nil=>exact absurd (by simpa using h2.2) hx
     | cons d r=>exact h2.2
    rw[if_pos h3,ih true (by omega) hx];omega
   ·omega
theorem begin_skip {x:Bs} (h:Jq (hd x)=true):skip x=0/\x.head?≠some 47:=by
 cases x with
 | nil=>exact⟨rfl,by simp⟩
 | cons c r=>
  have hc:Jq (c.toNat:Int)=true:=h;have h47:c≠47:=by rintro rfl;revert hc;decide
  have hb:zaq (c.toNat:Int)=false:=by
   rw[Bool.eq_false_iff];intro hb;simp only[zaq,Bool.or_eq_true,beq_iff_eq]at hb;rcases hb with((hb|hb)|hb)|hb <;> (rw[hb]at hc;revert hc;decide)
  refine⟨?_,by simpa using h47⟩;rw[skip,JI,if_neg (by rw[hb];decide),if_neg (fun h=>h47 h.1)]
theorem skip_not {l:Bs} (h:l.drop (skip l)≠[]):skip l<l.length:=by
 have h1:=zck l;have h2:=List.length_pos_iff.2 h;rw[List.length_drop]at h2;omega
end Lx
namespace Lx
open Lib
theorem escs_le (q:Bs):q.length<=(escs q).length:=by
 induction q with
 | nil=>simp
 | cons c q ih=>
  rw[zc3,List.length_append,List.length_cons];have:1<=(esc1 c).length:=by
   unfold esc1
   repeat' split
   all_goals simp
  omega
theorem own_le {t:Tok} (h:sound t=true):t.2.2.1.length<=(Js t).length:=by
 obtain⟨a,k,s,v⟩:=t;by_cases h4:k=4
 ·subst h4;simp[sound]at h;simp[h.1]
 ·by_cases h5:k=5
  ·subst h5;rw[zd2,quote];have:=escs_le s;simp;omega
  ·rw[zcn h4 h5];exact Nat.le_refl _
theorem join_one {t:Tok} (hs:sound t=true) (hl:(Js t).length<=65536):join [t]=.inr (Js t):=by
 have:=own_le hs;have e:joinW [t] 0 []=some (Js t):=by
  simp only[joinW,Nat.lt_irrefl,if_false,List.append_nil,List.length_nil,List.nil_append,Nat.zero_add];rw[if_neg (by omega),if_neg (by omega)]
 rw[join,if_neg (by simp[hs]),e];simp
end Lx
namespace Lx
open Lib
end Lx
end Go.Proofs.YtdamlfkieecnjaaGreatDoor
namespace Go.Proofs.YtdamlfkieecnjaaGreatDoor
namespace Lx
open Lib
end Lx
end Go.Proofs.YtdamlfkieecnjaaGreatDoor
namespace Go.Proofs.YtdamlfkieecnjaaGreatDoor
namespace Lx
open Lib
theorem lay_none {l:Bs} {a:Nat} (h:Lay l a []) (hl:l.length<=65536):lex l=([],none):=lex_of hl (.done _ _ h) (by simp)
theorem lay_front {l:Bs} (h0:l.drop (skip l)≠[]) (hb:Jq (hd (l.drop (skip l)))=true) (hl:l.length<=65536):lex (l.take (skip l))=([],none):=by
 have hn:=skip_not h0;have e:l.take (skip l)++l.drop (skip l)=l:=List.take_append_drop _ _;have hlen:(l.take (skip l)).length=skip l:=by rw[List.length_take];omega
 have:=zcu (l.take (skip l)) false (l.drop (skip l)) (by rw[e,hlen];rfl) (begin_skip hb).2;refine lay_none (a:=0) (.done _ _ ?_) (by rw[hlen];omega);have e2:skip (l.take (skip l))=(l.take (skip l)).length:=this;rw[e2,List.drop_length]
theorem place_step {src:Bs} {e:Nat} {t:Tok} {ts:List Tok} (he:e<=src.length) (hl:src.length<=4000) (h:Lay (src.drop e) e (t::ts)) :
  joinW [t] 0 []=some (Js t)/\join [t]=.inr (Js t)/\e<=t.1/\t.1+(Js t).length<=src.length/\(src.drop t.1).take (Js t).length=Js t/\lex ((src.drop e).take (t.1-e))=([],none) /\
   Lay (src.drop (t.1+(Js t).length)) (t.1+(Js t).length) ts/\t.2.2.1.length<=4000/\0<=t.2.2.2/\t.2.2.2<=9223372036854775807:=by
 rcases h.back with⟨_,h⟩|⟨k,v,s,m,us,h0,hb,hc,hr,h⟩
 ·cases h
 ·cases h
  obtain⟨r,h1,h2,h3,h4,h5,h6,h7⟩:=cut_is h0 hb hc;obtain⟨hm1,hm2⟩:=cut_size h0 hb hc;have hsn:=skip_not h0;simp only[List.length_drop]at hm2 hsn;have hT:Js (e+skip (src.drop e),k,s,v)=Js (0,k,s,v):=rfl;rw[hT];have hle:=own_le h3;have hj:join [(e+skip (src.drop e),k,s,v)]=.inr (Js (0,k,s,v)):=join_one (t:=(e+skip (src.drop e),k,s,v)) h3 (by rw[hT];omega);have hsl:(s:Bs).length<=(Js (0,k,s,v)).length:=hle;refine⟨?_,hj,Nat.le_add_right _ _,by show e+skip (src.drop e)+_<=_;omega,?_,?_,?_,by show(s:Bs).length<=_;omega,h4,h5⟩
  ·simp only[joinW,Nat.lt_irrefl,if_false,List.append_nil,List.length_nil,List.nil_append,Nat.zero_add];rw[hT,if_neg (by omega),if_neg (by omega)]
  ·have e1:src.drop (e+skip (src.drop e))=(src.drop e).drop (skip (src.drop e)):=by rw[List.drop_drop]
   show(src.drop (e+skip (src.drop e))).take _=_;rw[e1]
   conv=>lhs;rw[h1]
   rw[List.take_left' rfl]
  ·have e1:e+skip (src.drop e)-e=skip (src.drop e):=by omega
   show lex ((src.drop e).take (e+skip (src.drop e)-e))=_;rw[e1];exact lay_front h0 hb (by simp;omega)
  ·show Lay (src.drop (e+skip (src.drop e)+_)) (e+skip (src.drop e)+_) _;rw[<-h2,show e+skip (src.drop e)+m=e+(skip (src.drop e)+m)from by omega,<-List.drop_drop,<-Nat.add_assoc];exact hr
end Lx
end Go.Proofs.YtdamlfkieecnjaaGreatDoor
namespace Go.Proofs.YtdamlfkieecnjaaGreatDoor
open Go Go.RowKit Lx
theorem Jr (b:Int) (w:World):Calls Tryz.prog 210 #[.int .u8 b] w fun e w'=>e=.returned (.bool (zan b))/\w=w':=by
 go_enter Tryz.func210,Tryz.ntmps210;go_wp2
 all_goals
  go_ret
  simp_all [zan]
  try omega
theorem Jk (b:Int) (w:World):Calls Tryz.prog 211 #[.int .u8 b] w fun e w'=>e=.returned (.bool (JQ b))/\w=w':=by
 go_enter Tryz.func211,Tryz.ntmps211;go_wp2
 all_goals
  go_ret
  simp_all [JQ]
  try omega
theorem Jp (b:Int) (w:World):Calls Tryz.prog 212 #[.int .u8 b] w fun e w'=>e=.returned (.bool (Jd b))/\w=w':=by
 go_enter Tryz.func212,Tryz.ntmps212;go_wp2
 all_goals
  go_ret
  simp_all [Jd]
  try omega
theorem zbf (b:Int) (w:World):Calls Tryz.prog 244 #[.int .u8 b] w fun e w'=>e=.returned (.bool (Ji b))/\w=w':=by
 go_enter Tryz.func244,Tryz.ntmps244;go_wp2_with (first|(go_at_call 210;refine(Jr _ _).mono ?_;rintro e w' ⟨rfl,rfl⟩)|(go_at_call 211;refine(Jk _ _).mono ?_;rintro e w' ⟨rfl,rfl⟩)|(go_at_call 212;refine(Jp _ _).mono ?_;rintro e w' ⟨rfl,rfl⟩))
 all_goals
  go_ret
  simp_all [Ji]
def zbw (b:Int):Bool:=zae b&&b != 34&&b != 92
theorem zag (b:Int) (w:World):Calls Tryz.prog 246 #[.int .u8 b] w fun e w'=>e=.returned (.bool (zbw b))/\w=w':=by
 go_enter Tryz.func246,Tryz.ntmps246;go_wp2
 all_goals
  go_ret
  simp_all [zbw,zae]
  try omega
def zao (a k:Int) (s:ByteArray) (v z:Int):Value:=.agg #[.int .i64 a,.int .i64 k,.string s,.int .i64 v,.int .i64 z,.int .i64 0,.int .i64 0]
def JM (y p:Int):Value:=.agg #[.int .i64 0,.int .i64 0,.string ⟨#[]⟩,.int .i64 0,.int .i64 0,.int .i64 y,.int .i64 p]
theorem JG (y p:Int) (w:World):Calls Tryz.prog 217 #[.int .i64 y,.int .i64 p] w fun e w'=>e=.returned (JM y p)/\Below w.heap.size w w':=by
 go_enter Tryz.func217,Tryz.ntmps217;go_wp2;exact bodyPost_ret (v:=JM y p) (by simp[results,Tryz.results217,go_sem,JM]) rfl ⟨rfl,(Below.refl _ _).alloc (Nat.le_refl _) _⟩
theorem rwords_any (w:World):Calls Tryz.prog 266 #[] w fun e w'=>e=.returned (.slice (some ⟨w.heap.size,0,none⟩) 25 25)/\w'=w.alloc (.cells zal 9):=refWords_any w
theorem zdg (s:ByteArray) (b:Bool) (hb:words.contains s.data.toList=b) (w:World):Calls Tryz.prog 245 #[.string s] w fun e w'=>e=.returned (.bool b)/\Below w.heap.size w w':=by
 have HBB:=J4 hb;clear hb;go_enter Tryz.func245,Tryz.ntmps245;go_wp2_with (go_at_call 266;refine(rwords_any _).mono ?_;rintro e wv ⟨rfl,rfl⟩);have HW:=J4 (zeh w);have HB1:Below w.heap.size w (w.alloc (.cells zal 9)):=(Below.refl _ _).alloc (Nat.le_refl _) _
 revert HW HB1
 generalize w.alloc (.cells zal 9)=W1;intro HW HB1
 go_loop [4] (fun i=>∃k:Nat,k<=25/\i=.int .i64 k/\Hid (words.contains s.data.toList=(words.drop k).contains s.data.toList)) (fun i=>25-(intOf i).toNat)
 case atStart=>exact⟨0,by omega,rfl,rfl⟩
 case round=>
  obtain⟨k,hk,rfl,HK⟩:=hrel;by_cases hlt:k<25
  ·have c0:=J0 HW k (by simpa[wordStrs,words]using hlt);rw[Nat.zero_add]at c0;have hlt':(k:Int)<25:=by omega
   have hwl:k<words.length:=by simpa[words]using hlt
   have hdr:words.drop k=words.getD k []::words.drop (k+1):=by
    rw[List.drop_eq_getElem_cons hwl,List.getD_eq_getElem?_getD,List.getElem?_eq_getElem hwl];rfl
   have hws:(wordStrs.getD k ByteArray.empty).data.toList=words.getD k []:=by
    simp[wordStrs,List.getD_eq_getElem?_getD,List.getElem?_eq_getElem hwl]
   have e:=J0 HK;rw[hdr,<-hws]at e;clear hdr hws HK
   revert c0 e
   generalize wordStrs.getD k ByteArray.empty=ws;intro c0 e;by_cases hw:ws=s
   ·subst hw;have HT:Hid (true=b):=by show _=_;rw[<-J0 HBB,e];simp
    clear e;go_wp2;go_ret;exact⟨zb3 (J0 HT),HB1⟩
   ·have q:(ws.toList==s.toList)=false:=by
     rw[beq_eq_false_iff_ne,toList_data,toList_data];intro h;apply hw;apply ByteArray.ext;apply Array.ext';exact h
    have HN:Hid (words.contains s.data.toList=(words.drop (k+1)).contains s.data.toList):=by
     show _=_;rw[e,List.contains_cons,show(s.data.toList==ws.data.toList)=false from by
      rw[beq_eq_false_iff_ne];intro h;apply hw;apply ByteArray.ext;apply Array.ext';exact h.symm]
     rfl
    clear e;go_wp2
    go_round
    case rel=>exact⟨k+1,by omega,by go_num,HN⟩
    case measure=>simp[intOf];omega
  ·have HT:Hid (false=b):=by
    have e:=J0 HK;rw[List.drop_of_length_le (by simp[words];omega),J0 HBB]at e;exact e.symm
   go_wp2;go_ret;exact⟨zb3 (J0 HT),HB1⟩
def signRows:List Bs:=[[61,61],[40],[41],[123],[125],[59],[58],[44],[46],[61],[60],[43],[45],[42]]
def za0:Array Value:=(signRows.map fun s=>Value.string ⟨s.toArray⟩).toArray
theorem rsigns_any (w:World):Calls Tryz.prog 213 #[] w fun e w'=>e=.returned (.slice (some ⟨w.heap.size,0,none⟩) 14 14)/\w'=w.alloc (.cells za0 9):=by
 go_enter Tryz.func213,Tryz.ntmps213;go_wp2;go_ret;exact⟨rfl,rfl⟩
theorem sign_cell (w:World):∀j,j<14->(w.alloc (.cells za0 9)).cell? ⟨w.heap.size,j,none⟩=some (.string ⟨(signRows.getD j []).toArray⟩):=by
 intro j hj;rw[World.cell?_alloc_at _ _ _ _ (by rfl)];have hl:j<signRows.length:=hj;simp[za0,List.getD_eq_getElem?_getD,List.getElem?_eq_getElem hl]
theorem sign_row:∀j,j<14->(signRows.getD j [])≠[]/\(signRows.getD j []).length<=2:=by decide
theorem signs_first:∀b:Nat,b<256->zba (b:Int)=(signRows.any fun r=>hd r==(b:Int)):=by decide +kernel
theorem zed (b:UInt8) (t:Bool) (ht:Jq (b.toNat:Int)=t) (w:World):Calls Tryz.prog 158 #[.int .u8 (b.toNat:Int)] w fun e w'=>e=.returned (.bool t)/\Below w.heap.size w w':=by
 obtain⟨x,hx⟩:∃x:Int,(b.toNat:Int)=x:=⟨_,rfl⟩
 have hs:=signs_first b.toNat (UInt8.toNat_lt b);rw[hx]at ht hs;rw[hx];clear hx;by_cases h1:zan x=true
 ·have HT:Hid (true=t):=by show _=_;rw[<-ht,Jq,h1];rfl
  clear ht hs;go_enter Tryz.func158,Tryz.ntmps158;go_wp2_with (go_at_call 210;refine(Jr _ _).mono ?_;rintro e w' ⟨rfl,rfl⟩;rw[h1]);go_ret;exact⟨zb3 (J0 HT),Below.refl _ _⟩
 ·have h1:=(Bool.not_eq_true _).mp h1;by_cases h2:JQ x=true
  ·have HT:Hid (true=t):=by show _=_;rw[<-ht,Jq,h1,h2];rfl
   clear ht hs;go_enter Tryz.func158,Tryz.ntmps158;go_wp2_with (first|(go_at_call 210;refine(Jr _ _).mono ?_;rintro e w' ⟨rfl,rfl⟩;rw[h1])|(go_at_call 211;refine(Jk _ _).mono ?_;rintro e w' ⟨rfl,rfl⟩;rw[h2]));go_ret;exact⟨zb3 (J0 HT),Below.refl _ _⟩
  ·have h2:=(Bool.not_eq_true _).mp h2;by_cases h3:Jd x=true
   ·have HT:Hid (true=t):=by show _=_;rw[<-ht,Jq,h1,h2,h3];rfl
    clear ht hs;go_enter Tryz.func158,Tryz.ntmps158;go_wp2_with (first|(go_at_call 210;refine(Jr _ _).mono ?_;rintro e w' ⟨rfl,rfl⟩;rw[h1])|(go_at_call 211;refine(Jk _ _).mono ?_;rintro e w' ⟨rfl,rfl⟩;rw[h2])|(go_at_call 212;refine(Jp _ _).mono ?_;rintro e w' ⟨rfl,rfl⟩;rw[h3]));go_ret;exact⟨zb3 (J0 HT),Below.refl _ _⟩
   ·have h3:=(Bool.not_eq_true _).mp h3;by_cases h4:x=34
    ·have HT:Hid (true=t):=by show _=_;rw[<-ht,Jq,h1,h2,h3,h4];rfl
     have q:(x==34)=true:=by simp[h4]
     clear ht hs h4;go_enter Tryz.func158,Tryz.ntmps158;go_wp2_with (first|(go_at_call 210;refine(Jr _ _).mono ?_;rintro e w' ⟨rfl,rfl⟩;rw[h1])|(go_at_call 211;refine(Jk _ _).mono ?_;rintro e w' ⟨rfl,rfl⟩;rw[h2])|(go_at_call 212;refine(Jp _ _).mono ?_;rintro e w' ⟨rfl,rfl⟩;rw[h3]));go_ret;exact⟨zb3 (J0 HT),Below.refl _ _⟩
    ·have q:(x==34)=false:=by simpa using h4
     have HT:Hid (t=signRows.any fun r=>hd r==x):=by show _=_;rw[<-ht,Jq,h1,h2,h3,q,hs];rfl
     clear ht hs h4;go_enter Tryz.func158,Tryz.ntmps158;go_wp2_with (first|(go_at_call 210;refine(Jr _ _).mono ?_;rintro e w' ⟨rfl,rfl⟩;rw[h1])|(go_at_call 211;refine(Jk _ _).mono ?_;rintro e w' ⟨rfl,rfl⟩;rw[h2])|(go_at_call 212;refine(Jp _ _).mono ?_;rintro e w' ⟨rfl,rfl⟩;rw[h3])|(go_at_call 213;refine(rsigns_any _).mono ?_;rintro e wv ⟨rfl,rfl⟩));have HW:=J4 (sign_cell w);have HB1:Below w.heap.size w (w.alloc (.cells za0 9)):=(Below.refl _ _).alloc (Nat.le_refl _) _
     revert HW HB1
     generalize w.alloc (.cells za0 9)=W1;intro HW HB1
     go_loop [4] (fun i=>∃k:Nat,k<=14/\i=.int .i64 k/\Hid (t=(signRows.drop k).any fun r=>hd r==x)) (fun i=>14-(intOf i).toNat)
     case atStart=>exact⟨0,by omega,rfl,HT⟩
     case round=>
      obtain⟨k,hk,rfl,HK⟩:=hrel;by_cases hlt:k<14
      ·have c0:=J0 HW k hlt;obtain⟨hne,_⟩:=sign_row k hlt;have hlt':(k:Int)<14:=by omega
       have hdr:signRows.drop k=signRows.getD k []::signRows.drop (k+1):=by
        have hwl:k<signRows.length:=hlt;rw[List.drop_eq_getElem_cons hwl,List.getD_eq_getElem?_getD,List.getElem?_eq_getElem hwl];rfl
       have e:=J0 HK;rw[hdr,List.any_cons]at e;clear hdr HK
       revert c0 e hne
       generalize signRows.getD k []=row;intro c0 hne e;obtain⟨f,r,rfl⟩:=List.exists_cons_of_ne_nil hne;obtain⟨F,hF⟩:∃F:ByteArray,(⟨(f::r).toArray⟩:ByteArray)=F:=⟨_,rfl⟩
       have hF0:0<F.size:=by rw[<-hF];show 0<(f::r).toArray.size;simp
       have hFb:(F[0]'hF0)=f:=by subst hF;rfl
       have hh:hd (f::r)=((F[0]'hF0).toNat:Int):=by rw[hFb];rfl
       rw[hF]at c0;rw[hh]at e;clear hF hFb hh hne;by_cases hw:((F[0]'hF0).toNat:Int)=x
       ·have HT2:Hid (true=t):=by show _=_;rw[e];simp[hw]
        have q2:(((F[0]'hF0).toNat:Int)==x)=true:=by simpa using hw
        clear e HT hw;go_wp2;go_ret;exact⟨zb3 (J0 HT2),HB1⟩
       ·have q2:(((F[0]'hF0).toNat:Int)==x)=false:=by simpa using hw
        have HN:Hid (t=(signRows.drop (k+1)).any fun r=>hd r==x):=by rw[q2]at e;exact e
        clear e HT hw;go_wp2
        go_round
        case rel=>exact⟨k+1,by omega,by go_num,HN⟩
        case measure=>simp[intOf];omega
      ·have HT2:Hid (false=t):=by
        have e:=J0 HK;rw[List.drop_of_length_le (by show signRows.length<=k;simp[signRows];omega)]at e;exact e.symm
       go_wp2;go_ret;exact⟨zb3 (J0 HT2),HB1⟩
theorem skipN_true_no (c:UInt8) (r:Bs) (h:c≠10):JI true (c::r)=1+JI true r:=by rw[JI,if_neg h]
theorem skipN_true_nl (r:Bs):JI true (10::r)=skip (10::r):=by simp[JI,skip,zaq]
theorem ret_nat {a b:Nat} (h:a=b):Ending.returned (.int .i64 (a:Int))=.returned (.int .i64 (b:Int)):=by rw[h]
theorem skip_slash (l:Bs) (h:[47,47].isPrefixOf l=true):skip l=JI true l:=by rw[skip_two l h,zc1]
theorem rskip_any (s:ByteArray) (a z:Nat) (w:World) (h0:a<=s.size) (hs:s.size<=140737488355328) (hz:z=a+skip (s.data.toList.drop a)) :
  Calls Tryz.prog 157 #[.string s,.int .i64 a] w fun e w'=>e=.returned (.int .i64 (z:Int))/\w=w':=by
 have HZ:=J4 hz;clear hz;go_enter Tryz.func157,Tryz.ntmps157;go_wp2
 go_loop [1] (fun i=>∃k:Nat,k<=s.size/\i=.int .i64 k/\Hid (z=k+skip (s.data.toList.drop k))) (fun i=>s.size-(intOf i).toNat)
 case atStart=>exact⟨a,h0,rfl,HZ⟩
 case round=>
  obtain⟨k,hk,rfl,HK⟩:=hrel;by_cases hlt:k<s.size
  ·have hd:=drop_cons s k hlt;have hlt':(k:Int)<(s.size:Int):=by omega
   by_cases hb:zaq (s[k].toNat:Int)=true
   ·have HN:Hid (z=(k+1)+skip (s.data.toList.drop (k+1))):=by
     have e:=J0 HK;rw[hd,skip_blank _ _ hb]at e;show _=_;omega
    have hb':((s[k].toNat:Int)==9)=true∨(((s[k].toNat:Int)==9)=false/\((s[k].toNat:Int)==10)=true)∨(((s[k].toNat:Int)==9)=false/\((s[k].toNat:Int)==10)=false/\((s[k].toNat:Int)==13)=true) ∨
      (((s[k].toNat:Int)==9)=false/\((s[k].toNat:Int)==10)=false/\((s[k].toNat:Int)==13)=false/\((s[k].toNat:Int)==32)=true):=by
     simp only[zaq,Bool.or_eq_true,beq_iff_eq,beq_eq_false_iff_ne]at hb ⊢;omega
    clear hb hd;rcases hb' with q1|⟨q1,q2⟩|⟨q1,q2,q3⟩|⟨q1,q2,q3,q4⟩
    all_goals
     go_wp2
     go_round
     case rel=>exact⟨k+1,by omega,by go_num,HN⟩
     case measure=>simp[intOf];omega
   ·have hb:=(Bool.not_eq_true _).mp hb;have hb':((s[k].toNat:Int)==9)=false/\((s[k].toNat:Int)==10)=false/\((s[k].toNat:Int)==13)=false/\((s[k].toNat:Int)==32)=false:=by
     simp only[zaq,Bool.or_eq_false_iff]at hb;exact⟨hb.1.1.1,hb.1.1.2,hb.1.2,hb.2⟩
    obtain⟨q1,q2,q3,q4⟩:=hb';by_cases hp:[47,47].isPrefixOf (s.data.toList.drop k)=true
    ·have hk2:k+1<s.size:=by
      rcases Nat.lt_or_ge (k+1) s.size with h|h
      ·exact h
      ·rw[hd,List.drop_of_length_le (by simp;omega)]at hp;simp[List.isPrefixOf]at hp
     have hd2:=drop_cons s (k+1) hk2;have h47:s[k]=47/\s[k+1]=47:=by
      rw[hd,hd2]at hp;simp[List.isPrefixOf]at hp;exact⟨hp.1.symm,hp.2.symm⟩
     have n1:((s[k].toNat:Int) != 47)=false:=by rw[h47.1];rfl
     have n2:((s[k+1].toNat:Int) != 47)=false:=by rw[h47.2];rfl
     have n3:((k:Int)+1==(s.size:Int))=false:=by rw[beq_eq_false_iff_ne];omega
     have HR:Hid (z=k+JI true (s.data.toList.drop k)):=by
      have e:=J0 HK;rw[skip_slash _ hp]at e;exact e
     have hk10:s[k]≠10:=by rw[h47.1];decide
     clear hp hd hd2 h47 HK hb;go_wp2
     go_loop [1] (fun i=>∃j:Nat,k<=j/\j<=s.size/\i=.int .i64 j/\Hid (z=j+JI true (s.data.toList.drop j))) (fun i=>s.size-(intOf i).toNat)
     case atStart=>exact⟨k,by omega,by omega,rfl,HR⟩
     case round=>
      obtain⟨j,hj1,hj2,rfl,HJ⟩:=hrel;by_cases hj:j<s.size
      ·have hdj:=drop_cons s j hj;have hj':(j:Int)<(s.size:Int):=by omega
       by_cases h10:s[j]=10
       ·have m1:((s[j].toNat:Int) != 10)=false:=by rw[h10];rfl
        have HN:Hid (z=j+skip (s.data.toList.drop j)):=by
         have e:=J0 HJ;rw[hdj,h10,skipN_true_nl,<-h10,<-hdj]at e;exact e
        have hkj:k<j:=by
         rcases Nat.lt_or_ge k j with h|h
         ·exact h
         ·have:j=k:=by omega
          subst this;exact absurd h10 hk10
        clear hdj h10 HJ;go_wp2
        go_round
        case rel=>exact⟨j,by omega,rfl,HN⟩
        case measure=>simp[intOf];omega
       ·have m1:((s[j].toNat:Int) != 10)=true:=by
         simp only[bne_iff_ne,ne_eq];intro h;exact h10 (zb6 (n:=10) (by decide) h)
        have HN:Hid (z=(j+1)+JI true (s.data.toList.drop (j+1))):=by
         have e:=J0 HJ;rw[hdj,skipN_true_no _ _ h10]at e;show _=_;omega
        clear hdj h10 HJ;go_wp2
        go_round
        case rel=>exact⟨j+1,by omega,by omega,by go_num,HN⟩
        case measure=>simp[intOf];omega
      ·have HN:Hid (z=j+skip (s.data.toList.drop j)):=by
        have e:=J0 HJ;rw[List.drop_of_length_le (i:=j) (by rw[zak];omega)]at e ⊢;exact e
       go_wp2
       go_round
       case rel=>exact⟨j,by omega,rfl,HN⟩
       case measure=>simp[intOf];omega
    ·have hp:=(Bool.not_eq_true _).mp hp;have HN:Hid (z=k):=by
      have e:=J0 HK;rw[hd]at e hp;rw[skip_none _ _ hb hp]at e;exact e
     have hcase:((s[k].toNat:Int) != 47)=true∨(((s[k].toNat:Int) != 47)=false/\((k:Int)+1==(s.size:Int))=true)∨(∃h:k+1<s.size,((s[k].toNat:Int) != 47)=false/\((k:Int)+1==(s.size:Int))=false/\((s[k+1].toNat:Int) != 47)=true):=by
      by_cases c1:s[k]=47
      ·have n1:((s[k].toNat:Int) != 47)=false:=by rw[c1];rfl
       rcases Nat.lt_or_ge (k+1) s.size with h|h
       ·refine .inr (.inr ⟨h,n1,by rw[beq_eq_false_iff_ne];omega,?_⟩);simp only[bne_iff_ne,ne_eq];intro hq;have c2:s[k+1]=47:=zb6 (n:=47) (by decide) hq;rw[hd,drop_cons s (k+1) h,c1,c2]at hp;simp[List.isPrefixOf]at hp
       ·exact .inr (.inl ⟨n1,by rw[beq_iff_eq];omega⟩)
      ·left
       simp only[bne_iff_ne,ne_eq];intro hq;exact c1 (zb6 (n:=47) (by decide) hq)
     clear hd hp HK hb;rcases hcase with n1|⟨n1,n2⟩|⟨hk2,n1,n2,n3⟩
     all_goals
      go_wp2;go_ret;exact⟨ret_nat (J0 HN).symm,rfl⟩
  ·have HN:Hid (z=k):=by
    have e:=J0 HK;rw[List.drop_of_length_le (i:=k) (by rw[zak];omega)]at e;exact e
   go_wp2;go_ret;exact⟨ret_nat (J0 HN).symm,rfl⟩
def RCut (a:Nat):Cut->Value
 | .inl (o,y)=>JM (y:Int) ((a+o:Nat):Int)
 | .inr (k,s,v,m)=>zao (a:Int) k ⟨s.toArray⟩ v ((a+m:Nat):Int)
theorem Jx {a b:Value} (h:a=b):Ending.returned a=.returned b:=by rw[h]
theorem zev {s:Bs} (h:JQ (hd s)=true):kindOf s=2:=by rw[kindOf,if_pos h]
theorem rwords_small:∀x∈words,JQ (hd x)=false:=by decide +kernel
theorem word_kind' {s:Bs} (h:words.contains s=true):kindOf s=3:=by
 have:=rwords_small s (by simpa using h);rw[kindOf,this,h];rfl
theorem name_kind' {s:Bs} (h:JQ (hd s)=false) (h2:words.contains s=false):kindOf s=1:=by rw[kindOf,h,h2];rfl
theorem JN {B:Nat} {w w1:World} (h:Below B w w1) {b:Nat} (hb:B<=b) (v0 v1 v2 v3 v4 v5 v6:Value) :
  Below B w (((((((w1.setCell ⟨b,0,none⟩ v0).setCell ⟨b,1,none⟩ v1).setCell ⟨b,2,none⟩ v2).setCell ⟨b,3,none⟩ v3).setCell ⟨b,4,none⟩ v4).setCell ⟨b,5,none⟩ v5).setCell ⟨b,6,none⟩ v6):=
 (((JZ h hb v0 v1 v2 v3).setCell (p:=⟨b,4,none⟩) hb v4).setCell (p:=⟨b,5,none⟩) hb v5).setCell (p:=⟨b,6,none⟩) hb v6
theorem rname_any (s:ByteArray) (a:Nat) (w:World) (h0:a<s.size) (hs:s.size<=140737488355328) (hn:Ji (s[a].toNat:Int)=true) (R:Value) (hR:RCut a (Jv (s.data.toList.drop a))=R) :
  Calls Tryz.prog 214 #[.string s,.int .i64 a] w fun e w'=>e=.returned R/\Below w.heap.size w w':=by
 obtain⟨n,hnn⟩:∃n,n=Jf Ji (s.data.toList.drop a):=⟨_,rfl⟩
 have hn1:1+Jf Ji (s.data.toList.drop a).tail=n:=by
  rw[hnn,drop_cons s a h0,JT _ _ _ hn];rfl
 have hle:a+n<=s.size:=by
  have:=zam Ji (s.data.toList.drop a);rw[<-hnn,List.length_drop,zak]at this;omega
 have hR':R=if 32<n then JM 2 ((a+32:Nat):Int)else zao (a:Int) (kindOf ((s.data.toList.drop a).take n)) ⟨((s.data.toList.drop a).take n).toArray⟩ 0 ((a+n:Nat):Int):=by
  rw[<-hR,Jv,hn1]
  split <;> rfl
 have HR:=J4 hR';have HNN:=J4 hnn;have hnp:1<=n:=by omega
 clear hR hR' hn1 hnn;go_enter Tryz.func214,Tryz.ntmps214;go_wp2
 go_loop [5] (fun i=>∃k:Nat,a<=k/\k<=s.size/\k<=a+32/\k<=a+n/\i=.int .i64 k/\Hid (a+n=k+Jf Ji (s.data.toList.drop k))) (fun i=>s.size-(intOf i).toNat)
 case atStart=>exact⟨a,by omega,by omega,by omega,by omega,rfl,by show _=_;rw[J0 HNN]⟩
 case round=>
  obtain⟨k,hk0,hk1,hk2,hk3,rfl,HK⟩:=hrel;by_cases hlt:k<s.size
  ·have hd:=drop_cons s k hlt;have hlt':(k:Int)<(s.size:Int):=by omega
   by_cases hb:Ji (s[k].toNat:Int)=true
   ·have HN:Hid (a+n=(k+1)+Jf Ji (s.data.toList.drop (k+1))):=by
     have e:=J0 HK;rw[hd,JT _ _ _ hb]at e;show _=_;omega
    have hkn:k+1<=a+n:=by have:=J0 HN;omega
    by_cases h32:k=a+32
    ·have q:((k:Int)-(a:Int)==32)=true:=by rw[beq_iff_eq];omega
     have HW:Hid (JM 2 (k:Int)=R):=by
      show _=_;rw[J0 HR,if_pos (by omega),h32]
     clear hd HK HR HN h32;go_wp2_with (first|(go_at_call 244;refine(zbf _ _).mono ?_;rintro e w' ⟨rfl,rfl⟩;rw[hb])|(go_at_call 217;refine(JG _ _ _).mono ?_;rintro e w1 ⟨rfl,hb1⟩;obtain⟨hc,hf⟩:=JS hb1;dsimp only[JM]));exact bodyPost_ret (v:=JM 2 (k:Int)) (by simp[results,Tryz.results214,go_sem,hc,JM]) rfl ⟨Jx (J0 HW),JN ((Below.refl _ _).alloc (Nat.le_refl _) _ |>.trans (hb1.mono (by simp))) (Nat.le_refl _) _ _ _ _ _ _ _⟩
    ·have q:((k:Int)-(a:Int)==32)=false:=by rw[beq_eq_false_iff_ne];omega
     clear hd HK;go_wp2_with (first|(go_at_call 244;refine(zbf _ _).mono ?_;rintro e w' ⟨rfl,rfl⟩;rw[hb]))
     go_round
     case rel=>exact⟨k+1,by omega,by omega,by omega,hkn,by go_num,HN⟩
     case measure=>simp[intOf];omega
   ·have hb:=(Bool.not_eq_true _).mp hb;have hkn:k=a+n:=by
     have e:=J0 HK;rw[hd,zb1 _ _ _ hb]at e;omega
    have hn32:¬32<n:=by omega
    have hk32:k<=s.size:=hk1;have HS:Hid ((⟨((s.data.toList.drop a).take n).toArray⟩:ByteArray)=s.extract a k):=by
     show _=_;rw[hkn];exact(JR s a n).symm
    have hhd:Lx.hd ((s.data.toList.drop a).take n)=(s[a].toNat:Int):=by
     obtain⟨m,rfl⟩:∃m,n=m+1:=⟨n-1,by omega⟩
     rw[drop_cons s a h0];rfl
    have hdat:(s.extract a k).data.toList=(s.data.toList.drop a).take n:=by rw[<-J0 HS]
    have HR2:Hid (R=zao (a:Int) (kindOf ((s.data.toList.drop a).take n)) (s.extract a k) 0 (k:Int)):=by
     show _=_;rw[J0 HR,if_neg hn32,J0 HS,<-hkn]
    clear HR HS HK;by_cases hgr:JQ (s[a].toNat:Int)=true
    ·have HR3:Hid (zao (a:Int) 2 (s.extract a k) 0 (k:Int)=R):=by show _=_;rw[J0 HR2,zev (by rw[hhd];exact hgr)]
     clear HR2 hdat hhd hkn;go_wp2_with (first|(go_at_call 244;refine(zbf _ _).mono ?_;rintro e w' ⟨rfl,rfl⟩;rw[hb])|(go_at_call 211;refine(Jk _ _).mono ?_;rintro e w' ⟨rfl,rfl⟩;rw[hgr]));exact bodyPost_ret (v:=zao (a:Int) 2 (s.extract a k) 0 (k:Int)) (by simp[results,Tryz.results214,go_sem,zao]) rfl ⟨Jx (J0 HR3),za7 _ _ _⟩
    ·have hgr:=(Bool.not_eq_true _).mp hgr;by_cases hw:words.contains (s.extract a k).data.toList=true
     ·have HR3:Hid (zao (a:Int) 3 (s.extract a k) 0 (k:Int)=R):=by show _=_;rw[J0 HR2,word_kind' (by rw[<-hdat];exact hw)]
      have WD:=J4 (fun W=>zdg (s.extract a k) true hw W);clear HR2 hdat hhd hkn hw;go_wp2_with (first|(go_at_call 244;refine(zbf _ _).mono ?_;rintro e w' ⟨rfl,rfl⟩;rw[hb])|(go_at_call 211;refine(Jk _ _).mono ?_;rintro e w' ⟨rfl,rfl⟩;rw[hgr])|(go_at_call 245;refine(J0 WD _).mono ?_;rintro e w1 ⟨rfl,hb1⟩;obtain⟨hc,hf⟩:=JS hb1;have hz:=hb1.size));have hB1:Below w.heap.size w w1:=(((Below.refl _ _).alloc (Nat.le_refl _) _).alloc (by simp) _).trans (hb1.mono (by simp;omega));have hx:∀o,(w1.setCell ⟨w.heap.size+1,1,none⟩ (.int .i64 3)).cell? ⟨w.heap.size,o,none⟩=w1.cell? ⟨w.heap.size,o,none⟩:=fun o=>World.cell?_setCell_other _ _ _ _ (by simp)
      have k0:(w1.setCell ⟨w.heap.size+1,1,none⟩ (.int .i64 3)).cell? ⟨w.heap.size,0,none⟩=some (.int .i64 0):=by rw[hx,hc _ _ (by simp;omega)];exact(World.cell?_alloc_lt _ _ ⟨w.heap.size,_,none⟩ (by simp)).trans (by rw[World.cell?_alloc_at _ _ _ _ (by rfl)];rfl)
      have k1:(w1.setCell ⟨w.heap.size+1,1,none⟩ (.int .i64 3)).cell? ⟨w.heap.size,1,none⟩=some (.int .i64 0):=by rw[hx,hc _ _ (by simp;omega)];exact(World.cell?_alloc_lt _ _ ⟨w.heap.size,_,none⟩ (by simp)).trans (by rw[World.cell?_alloc_at _ _ _ _ (by rfl)];rfl)
      have k2:(w1.setCell ⟨w.heap.size+1,1,none⟩ (.int .i64 3)).cell? ⟨w.heap.size,2,none⟩=some (.string ⟨#[]⟩):=by rw[hx,hc _ _ (by simp;omega)];exact(World.cell?_alloc_lt _ _ ⟨w.heap.size,_,none⟩ (by simp)).trans (by rw[World.cell?_alloc_at _ _ _ _ (by rfl)];rfl)
      have k3:(w1.setCell ⟨w.heap.size+1,1,none⟩ (.int .i64 3)).cell? ⟨w.heap.size,3,none⟩=some (.int .i64 0):=by rw[hx,hc _ _ (by simp;omega)];exact(World.cell?_alloc_lt _ _ ⟨w.heap.size,_,none⟩ (by simp)).trans (by rw[World.cell?_alloc_at _ _ _ _ (by rfl)];rfl)
      have k4:(w1.setCell ⟨w.heap.size+1,1,none⟩ (.int .i64 3)).cell? ⟨w.heap.size,4,none⟩=some (.int .i64 0):=by rw[hx,hc _ _ (by simp;omega)];exact(World.cell?_alloc_lt _ _ ⟨w.heap.size,_,none⟩ (by simp)).trans (by rw[World.cell?_alloc_at _ _ _ _ (by rfl)];rfl)
      have k5:(w1.setCell ⟨w.heap.size+1,1,none⟩ (.int .i64 3)).cell? ⟨w.heap.size,5,none⟩=some (.int .i64 0):=by rw[hx,hc _ _ (by simp;omega)];exact(World.cell?_alloc_lt _ _ ⟨w.heap.size,_,none⟩ (by simp)).trans (by rw[World.cell?_alloc_at _ _ _ _ (by rfl)];rfl)
      have k6:(w1.setCell ⟨w.heap.size+1,1,none⟩ (.int .i64 3)).cell? ⟨w.heap.size,6,none⟩=some (.int .i64 0):=by rw[hx,hc _ _ (by simp;omega)];exact(World.cell?_alloc_lt _ _ ⟨w.heap.size,_,none⟩ (by simp)).trans (by rw[World.cell?_alloc_at _ _ _ _ (by rfl)];rfl)
      have hB2:=hB1.setCell (p:=⟨w.heap.size+1,1,none⟩) (Nat.le_succ _) (.int .i64 3);clear hx hc hf hz hB1 hb1
      revert k0 k1 k2 k3 k4 k5 k6 hB2
      generalize w1.setCell ⟨w.heap.size+1,1,none⟩ (.int .i64 3)=W2;intro k0 k1 k2 k3 k4 k5 k6 hB2;exact bodyPost_ret (v:=zao (a:Int) 3 (s.extract a k) 0 (k:Int)) (by simp[results,Tryz.results214,go_sem,k0,k1,k2,k3,k4,k5,k6,zao]) rfl ⟨Jx (J0 HR3),JN hB2 (Nat.le_refl _) _ _ _ _ _ _ _⟩
     ·have hw:=(Bool.not_eq_true _).mp hw;have HR3:Hid (zao (a:Int) 1 (s.extract a k) 0 (k:Int)=R):=by show _=_;rw[J0 HR2,name_kind' (by rw[hhd];exact hgr) (by rw[<-hdat];exact hw)]
      have WD:=J4 (fun W=>zdg (s.extract a k) false hw W);clear HR2 hdat hhd hkn hw;go_wp2_with (first|(go_at_call 244;refine(zbf _ _).mono ?_;rintro e w' ⟨rfl,rfl⟩;rw[hb])|(go_at_call 211;refine(Jk _ _).mono ?_;rintro e w' ⟨rfl,rfl⟩;rw[hgr])|(go_at_call 245;refine(J0 WD _).mono ?_;rintro e w1 ⟨rfl,hb1⟩;obtain⟨hc,hf⟩:=JS hb1;have hz:=hb1.size));have hB1:Below w.heap.size w w1:=(((Below.refl _ _).alloc (Nat.le_refl _) _).alloc (by simp) _).trans (hb1.mono (by simp;omega));have k0:w1.cell? ⟨w.heap.size,0,none⟩=some (.int .i64 0):=by rw[hc _ _ (by simp;omega)];exact(World.cell?_alloc_lt _ _ ⟨w.heap.size,_,none⟩ (by simp)).trans (by rw[World.cell?_alloc_at _ _ _ _ (by rfl)];rfl)
      have k1:w1.cell? ⟨w.heap.size,1,none⟩=some (.int .i64 0):=by rw[hc _ _ (by simp;omega)];exact(World.cell?_alloc_lt _ _ ⟨w.heap.size,_,none⟩ (by simp)).trans (by rw[World.cell?_alloc_at _ _ _ _ (by rfl)];rfl)
      have k2:w1.cell? ⟨w.heap.size,2,none⟩=some (.string ⟨#[]⟩):=by rw[hc _ _ (by simp;omega)];exact(World.cell?_alloc_lt _ _ ⟨w.heap.size,_,none⟩ (by simp)).trans (by rw[World.cell?_alloc_at _ _ _ _ (by rfl)];rfl)
      have k3:w1.cell? ⟨w.heap.size,3,none⟩=some (.int .i64 0):=by rw[hc _ _ (by simp;omega)];exact(World.cell?_alloc_lt _ _ ⟨w.heap.size,_,none⟩ (by simp)).trans (by rw[World.cell?_alloc_at _ _ _ _ (by rfl)];rfl)
      have k4:w1.cell? ⟨w.heap.size,4,none⟩=some (.int .i64 0):=by rw[hc _ _ (by simp;omega)];exact(World.cell?_alloc_lt _ _ ⟨w.heap.size,_,none⟩ (by simp)).trans (by rw[World.cell?_alloc_at _ _ _ _ (by rfl)];rfl)
      have k5:w1.cell? ⟨w.heap.size,5,none⟩=some (.int .i64 0):=by rw[hc _ _ (by simp;omega)];exact(World.cell?_alloc_lt _ _ ⟨w.heap.size,_,none⟩ (by simp)).trans (by rw[World.cell?_alloc_at _ _ _ _ (by rfl)];rfl)
      have k6:w1.cell? ⟨w.heap.size,6,none⟩=some (.int .i64 0):=by rw[hc _ _ (by simp;omega)];exact(World.cell?_alloc_lt _ _ ⟨w.heap.size,_,none⟩ (by simp)).trans (by rw[World.cell?_alloc_at _ _ _ _ (by rfl)];rfl)
      clear hc hf hz hb1;exact bodyPost_ret (v:=zao (a:Int) 1 (s.extract a k) 0 (k:Int)) (by simp[results,Tryz.results214,go_sem,k0,k1,k2,k3,k4,k5,k6,zao]) rfl ⟨Jx (J0 HR3),JN hB1 (Nat.le_refl _) _ _ _ _ _ _ _⟩
  ·have hkn:k=a+n:=by
    have e:=J0 HK;rw[List.drop_of_length_le (i:=k) (by rw[zak];omega),runLen_nil]at e;omega
   have hn32:¬32<n:=by omega
   have hk32:k<=s.size:=hk1;have HS:Hid ((⟨((s.data.toList.drop a).take n).toArray⟩:ByteArray)=s.extract a k):=by
    show _=_;rw[hkn];exact(JR s a n).symm
   have hhd:Lx.hd ((s.data.toList.drop a).take n)=(s[a].toNat:Int):=by
    obtain⟨m,rfl⟩:∃m,n=m+1:=⟨n-1,by omega⟩
    rw[drop_cons s a h0];rfl
   have hdat:(s.extract a k).data.toList=(s.data.toList.drop a).take n:=by rw[<-J0 HS]
   have HR2:Hid (R=zao (a:Int) (kindOf ((s.data.toList.drop a).take n)) (s.extract a k) 0 (k:Int)):=by
    show _=_;rw[J0 HR,if_neg hn32,J0 HS,<-hkn]
   clear HR HS HK;by_cases hgr:JQ (s[a].toNat:Int)=true
   ·have HR3:Hid (zao (a:Int) 2 (s.extract a k) 0 (k:Int)=R):=by show _=_;rw[J0 HR2,zev (by rw[hhd];exact hgr)]
    clear HR2 hdat hhd hkn;go_wp2_with (first|(go_at_call 244;fail)|(go_at_call 211;refine(Jk _ _).mono ?_;rintro e w' ⟨rfl,rfl⟩;rw[hgr]));exact bodyPost_ret (v:=zao (a:Int) 2 (s.extract a k) 0 (k:Int)) (by simp[results,Tryz.results214,go_sem,zao]) rfl ⟨Jx (J0 HR3),za7 _ _ _⟩
   ·have hgr:=(Bool.not_eq_true _).mp hgr;by_cases hw:words.contains (s.extract a k).data.toList=true
    ·have HR3:Hid (zao (a:Int) 3 (s.extract a k) 0 (k:Int)=R):=by show _=_;rw[J0 HR2,word_kind' (by rw[<-hdat];exact hw)]
     have WD:=J4 (fun W=>zdg (s.extract a k) true hw W);clear HR2 hdat hhd hkn hw;go_wp2_with (first|(go_at_call 244;fail)|(go_at_call 211;refine(Jk _ _).mono ?_;rintro e w' ⟨rfl,rfl⟩;rw[hgr])|(go_at_call 245;refine(J0 WD _).mono ?_;rintro e w1 ⟨rfl,hb1⟩;obtain⟨hc,hf⟩:=JS hb1;have hz:=hb1.size));have hB1:Below w.heap.size w w1:=(((Below.refl _ _).alloc (Nat.le_refl _) _).alloc (by simp) _).trans (hb1.mono (by simp;omega));have hx:∀o,(w1.setCell ⟨w.heap.size+1,1,none⟩ (.int .i64 3)).cell? ⟨w.heap.size,o,none⟩=w1.cell? ⟨w.heap.size,o,none⟩:=fun o=>World.cell?_setCell_other _ _ _ _ (by simp)
     have k0:(w1.setCell ⟨w.heap.size+1,1,none⟩ (.int .i64 3)).cell? ⟨w.heap.size,0,none⟩=some (.int .i64 0):=by rw[hx,hc _ _ (by simp;omega)];exact(World.cell?_alloc_lt _ _ ⟨w.heap.size,_,none⟩ (by simp)).trans (by rw[World.cell?_alloc_at _ _ _ _ (by rfl)];rfl)
     have k1:(w1.setCell ⟨w.heap.size+1,1,none⟩ (.int .i64 3)).cell? ⟨w.heap.size,1,none⟩=some (.int .i64 0):=by rw[hx,hc _ _ (by simp;omega)];exact(World.cell?_alloc_lt _ _ ⟨w.heap.size,_,none⟩ (by simp)).trans (by rw[World.cell?_alloc_at _ _ _ _ (by rfl)];rfl)
     have k2:(w1.setCell ⟨w.heap.size+1,1,none⟩ (.int .i64 3)).cell? ⟨w.heap.size,2,none⟩=some (.string ⟨#[]⟩):=by rw[hx,hc _ _ (by simp;omega)];exact(World.cell?_alloc_lt _ _ ⟨w.heap.size,_,none⟩ (by simp)).trans (by rw[World.cell?_alloc_at _ _ _ _ (by rfl)];rfl)
     have k3:(w1.setCell ⟨w.heap.size+1,1,none⟩ (.int .i64 3)).cell? ⟨w.heap.size,3,none⟩=some (.int .i64 0):=by rw[hx,hc _ _ (by simp;omega)];exact(World.cell?_alloc_lt _ _ ⟨w.heap.size,_,none⟩ (by simp)).trans (by rw[World.cell?_alloc_at _ _ _ _ (by rfl)];rfl)
     have k4:(w1.setCell ⟨w.heap.size+1,1,none⟩ (.int .i64 3)).cell? ⟨w.heap.size,4,none⟩=some (.int .i64 0):=by rw[hx,hc _ _ (by simp;omega)];exact(World.cell?_alloc_lt _ _ ⟨w.heap.size,_,none⟩ (by simp)).trans (by rw[World.cell?_alloc_at _ _ _ _ (by rfl)];rfl)
     have k5:(w1.setCell ⟨w.heap.size+1,1,none⟩ (.int .i64 3)).cell? ⟨w.heap.size,5,none⟩=some (.int .i64 0):=by rw[hx,hc _ _ (by simp;omega)];exact(World.cell?_alloc_lt _ _ ⟨w.heap.size,_,none⟩ (by simp)).trans (by rw[World.cell?_alloc_at _ _ _ _ (by rfl)];rfl)
     have k6:(w1.setCell ⟨w.heap.size+1,1,none⟩ (.int .i64 3)).cell? ⟨w.heap.size,6,none⟩=some (.int .i64 0):=by rw[hx,hc _ _ (by simp;omega)];exact(World.cell?_alloc_lt _ _ ⟨w.heap.size,_,none⟩ (by simp)).trans (by rw[World.cell?_alloc_at _ _ _ _ (by rfl)];rfl)
     have hB2:=hB1.setCell (p:=⟨w.heap.size+1,1,none⟩) (Nat.le_succ _) (.int .i64 3);clear hx hc hf hz hB1 hb1
     revert k0 k1 k2 k3 k4 k5 k6 hB2
     generalize w1.setCell ⟨w.heap.size+1,1,none⟩ (.int .i64 3)=W2;intro k0 k1 k2 k3 k4 k5 k6 hB2;exact bodyPost_ret (v:=zao (a:Int) 3 (s.extract a k) 0 (k:Int)) (by simp[results,Tryz.results214,go_sem,k0,k1,k2,k3,k4,k5,k6,zao]) rfl ⟨Jx (J0 HR3),JN hB2 (Nat.le_refl _) _ _ _ _ _ _ _⟩
    ·have hw:=(Bool.not_eq_true _).mp hw;have HR3:Hid (zao (a:Int) 1 (s.extract a k) 0 (k:Int)=R):=by show _=_;rw[J0 HR2,name_kind' (by rw[hhd];exact hgr) (by rw[<-hdat];exact hw)]
     have WD:=J4 (fun W=>zdg (s.extract a k) false hw W);clear HR2 hdat hhd hkn hw;go_wp2_with (first|(go_at_call 244;fail)|(go_at_call 211;refine(Jk _ _).mono ?_;rintro e w' ⟨rfl,rfl⟩;rw[hgr])|(go_at_call 245;refine(J0 WD _).mono ?_;rintro e w1 ⟨rfl,hb1⟩;obtain⟨hc,hf⟩:=JS hb1;have hz:=hb1.size));have hB1:Below w.heap.size w w1:=(((Below.refl _ _).alloc (Nat.le_refl _) _).alloc (by simp) _).trans (hb1.mono (by simp;omega));have k0:w1.cell? ⟨w.heap.size,0,none⟩=some (.int .i64 0):=by rw[hc _ _ (by simp;omega)];exact(World.cell?_alloc_lt _ _ ⟨w.heap.size,_,none⟩ (by simp)).trans (by rw[World.cell?_alloc_at _ _ _ _ (by rfl)];rfl)
     have k1:w1.cell? ⟨w.heap.size,1,none⟩=some (.int .i64 0):=by rw[hc _ _ (by simp;omega)];exact(World.cell?_alloc_lt _ _ ⟨w.heap.size,_,none⟩ (by simp)).trans (by rw[World.cell?_alloc_at _ _ _ _ (by rfl)];rfl)
     have k2:w1.cell? ⟨w.heap.size,2,none⟩=some (.string ⟨#[]⟩):=by rw[hc _ _ (by simp;omega)];exact(World.cell?_alloc_lt _ _ ⟨w.heap.size,_,none⟩ (by simp)).trans (by rw[World.cell?_alloc_at _ _ _ _ (by rfl)];rfl)
     have k3:w1.cell? ⟨w.heap.size,3,none⟩=some (.int .i64 0):=by rw[hc _ _ (by simp;omega)];exact(World.cell?_alloc_lt _ _ ⟨w.heap.size,_,none⟩ (by simp)).trans (by rw[World.cell?_alloc_at _ _ _ _ (by rfl)];rfl)
     have k4:w1.cell? ⟨w.heap.size,4,none⟩=some (.int .i64 0):=by rw[hc _ _ (by simp;omega)];exact(World.cell?_alloc_lt _ _ ⟨w.heap.size,_,none⟩ (by simp)).trans (by rw[World.cell?_alloc_at _ _ _ _ (by rfl)];rfl)
     have k5:w1.cell? ⟨w.heap.size,5,none⟩=some (.int .i64 0):=by rw[hc _ _ (by simp;omega)];exact(World.cell?_alloc_lt _ _ ⟨w.heap.size,_,none⟩ (by simp)).trans (by rw[World.cell?_alloc_at _ _ _ _ (by rfl)];rfl)
     have k6:w1.cell? ⟨w.heap.size,6,none⟩=some (.int .i64 0):=by rw[hc _ _ (by simp;omega)];exact(World.cell?_alloc_lt _ _ ⟨w.heap.size,_,none⟩ (by simp)).trans (by rw[World.cell?_alloc_at _ _ _ _ (by rfl)];rfl)
     clear hc hf hz hb1;exact bodyPost_ret (v:=zao (a:Int) 1 (s.extract a k) 0 (k:Int)) (by simp[results,Tryz.results214,go_sem,k0,k1,k2,k3,k4,k5,k6,zao]) rfl ⟨Jx (J0 HR3),JN hB1 (Nat.le_refl _) _ _ _ _ _ _ _⟩
namespace Lx
def Jy:Bs->Nat->Nat
 | [],u=>u
 | c::r,u=>Jy r (u*10+(c.toNat-48))
theorem digVal_ge:∀(l:Bs) (u:Nat),u<=Jy l u
 | [],_=>Nat.le_refl _
 | c::r,u=>by have:=digVal_ge r (u*10+(c.toNat-48));rw[Jy];omega
theorem digVal_app:∀(a b:Bs) (u:Nat),Jy (a++b) u=Jy b (Jy a u)
 | [],_,_=>rfl
 | _::a,b,_=>digVal_app a b _
theorem digVal_lt:∀(l:Bs) (u:Nat),(∀c∈l,Jd (c.toNat:Int)=true)->Jy l u<(u+1)*10 ^ l.length
 | [],u,_=>by simp[Jy]
 | c::r,u,h=>by
  have hc:Jd (c.toNat:Int)=true:=h c (by simp);simp only[Jd,Bool.and_eq_true,decide_eq_true_eq]at hc;have:=digVal_lt r (u*10+(c.toNat-48)) (fun x hx=>h x (by simp[hx]));rw[Jy,List.length_cons,Nat.pow_succ,Nat.mul_comm (10 ^ r.length),<-Nat.mul_assoc];refine Nat.lt_of_lt_of_le this (Nat.mul_le_mul_right _ (by omega))
theorem fold_val:∀(l:Bs) (u:Nat),(∀c∈l,Jd (c.toNat:Int)=true)->JY l (u:Int)=if Jy l u<=9223372036854775807∨l=[]then some (Jy l u:Int)else none
 | [],u,_=>by simp[JY,Jy]
 | c::r,u,h=>by
  have hc:Jd (c.toNat:Int)=true:=h c (by simp);simp only[Jd,Bool.and_eq_true,decide_eq_true_eq]at hc;have ih:=fold_val r (u*10+(c.toNat-48)) (fun x hx=>h x (by simp[hx]));have e:((u:Int)*10+((c.toNat:Int)-48))=((u*10+(c.toNat-48):Nat):Int):=by omega
  rw[JY,Jy,e,ih];have hge:=digVal_ge r (u*10+(c.toNat-48));by_cases hv:Jy r (u*10+(c.toNat-48))<=9223372036854775807
  ·rw[if_neg (by omega),if_pos (.inl hv),if_pos (.inl hv)]
  ·have hr:(if Jy r (u*10+(c.toNat-48))<=9223372036854775807∨c::r=[]then some (Jy r (u*10+(c.toNat-48)):Int)else none)=none:=if_neg (by simp[hv]);rw[hr];by_cases hq:(9223372036854775807-((c.toNat:Int)-48)) / 10<(u:Int)
   ·rw[if_pos hq]
   ·rw[if_neg hq]
    cases r with
    | nil=>
     exfalso;apply hv;show u*10+(c.toNat-48)<=_;omega
    | cons d r=>rw[if_neg (by simp[hv])]
theorem number_val {ds:Bs} (h:∀c∈ds,Jd (c.toNat:Int)=true) (h0:ds≠[]):number ds=if (hd ds=48/\1<ds.length)∨¬Jy ds 0<=9223372036854775807 then none else some (Jy ds 0:Int):=by
 unfold number;by_cases hz:hd ds=48/\1<ds.length
 ·rw[if_pos hz,if_pos (.inl hz)]
 ·rw[if_neg hz];have:=fold_val ds 0 h;rw[show((0:Nat):Int)=0 from rfl]at this;rw[this];by_cases hv:Jy ds 0<=9223372036854775807
  ·rw[if_pos (.inl hv),if_neg (by simp[hz,hv])]
  ·rw[if_neg (by simp[hv,h0]),if_pos (.inr hv)]
theorem digVal_big:∀(l:Bs) (u:Nat),(∀c∈l,Jd (c.toNat:Int)=true)->u*10 ^ l.length<=Jy l u
 | [],u,_=>by simp[Jy]
 | c::r,u,h=>by
  have:=digVal_big r (u*10+(c.toNat-48)) (fun x hx=>h x (by simp[hx]));rw[Jy,List.length_cons,Nat.pow_succ,Nat.mul_comm (10 ^ r.length),<-Nat.mul_assoc];exact Nat.le_trans (Nat.mul_le_mul_right _ (by omega)) this
theorem digVal_20 {l:Bs} (h:∀c∈l,Jd (c.toNat:Int)=true) (hl:20<=l.length):(hd l=48/\1<l.length)∨¬Jy l 0<=9223372036854775807:=by
 cases l with
 | nil=>simp at hl
 | cons c r=>
  have hc:Jd (c.toNat:Int)=true:=h c (by simp);simp only[Jd,Bool.and_eq_true,decide_eq_true_eq]at hc;rw[List.length_cons]at hl;by_cases hz:hd (c::r)=48
  ·exact .inl ⟨hz,by rw[List.length_cons];omega⟩
  ·right
   have hz':(c.toNat:Int)≠48:=hz;have h1:=digVal_big r (0*10+(c.toNat-48)) (fun x hx=>h x (by simp[hx]));have h2:10 ^ 19<=10 ^ r.length:=Nat.pow_le_pow_right (by omega) (by omega);rw[show(10:Nat) ^ 19=10000000000000000000 from by decide]at h2;have h3:1*10 ^ r.length<=(0*10+(c.toNat-48))*10 ^ r.length:=Nat.mul_le_mul_right _ (by omega);show ¬Jy r (0*10+(c.toNat-48))<=_;omega
end Lx
theorem rnumber_any (s:ByteArray) (a:Nat) (w:World) (h0:a<s.size) (hs:s.size<=140737488355328) (hn:Jd (s[a].toNat:Int)=true) (R:Value) (hR:RCut a (Jh (s.data.toList.drop a))=R) :
  Calls Tryz.prog 215 #[.string s,.int .i64 a] w fun e w'=>e=.returned R/\Below w.heap.size w w':=by
 obtain⟨n,hnn⟩:∃n,n=Jf Jd (s.data.toList.drop a):=⟨_,rfl⟩
 have hn1:Jz (s.data.toList.drop a)=n:=by
  rw[hnn,Jz,drop_cons s a h0,JT _ _ _ hn];rfl
 have hle:a+n<=s.size:=by
  have:=zam Jd (s.data.toList.drop a);rw[<-hnn,List.length_drop,zak]at this;omega
 have hnp:1<=n:=by rw[<-hn1,Jz];omega
 obtain⟨D,hD⟩:∃D:Bs,D=(s.data.toList.drop a).take n:=⟨_,rfl⟩
 have hDl:D.length=n:=by rw[hD,List.length_take,List.length_drop,zak];omega
 have hDa:∀c∈D,Jd (c.toNat:Int)=true:=by rw[hD,hnn];exact run_all Jd _
 have hDh:Lx.hd D=(s[a].toNat:Int):=by
  obtain⟨m,rfl⟩:∃m,n=m+1:=⟨n-1,by omega⟩
  rw[hD,drop_cons s a h0];rfl
 have hDn:D≠[]:=by intro e;rw[e]at hDl;simp at hDl;omega
 have hnum:=number_val hDa hDn;have hrest:(s.data.toList.drop a).drop n=s.data.toList.drop (a+n):=by rw[List.drop_drop]
 have hR':R=match number D with
   | none=>JM 11 (a:Int)
   | some v=>if s.data.toList.drop (a+n)≠[]/\Ji (Lx.hd (s.data.toList.drop (a+n)))=true then JM 11 (a:Int)else zao (a:Int) 4 ⟨#[]⟩ v ((a+n:Nat):Int):=by
  rw[<-hR,Jh,hn1,<-hD,hrest]
  cases number D with
  | none=>rfl
  | some v=>
   simp only
   split <;> rfl
 have HR:Hid (((Lx.hd D=48/\1<n)∨¬Jy D 0<=9223372036854775807->JM 11 (a:Int)=R)/\(¬((Lx.hd D=48/\1<n)∨¬Jy D 0<=9223372036854775807)->(s.data.toList.drop (a+n)≠[]/\Ji (Lx.hd (s.data.toList.drop (a+n)))=true->JM 11 (a:Int)=R) /\
   (¬(s.data.toList.drop (a+n)≠[]/\Ji (Lx.hd (s.data.toList.drop (a+n)))=true)->zao (a:Int) 4 ⟨#[]⟩ (Jy D 0:Int) ((a+n:Nat):Int)=R))):=by
  rw[hDl]at hnum;refine⟨fun h=>?_,fun h=>⟨fun h2=>?_,fun h2=>?_⟩⟩
  ·rw[hR',hnum,if_pos h]
  ·rw[hR',hnum,if_neg h];simp only;rw[if_pos h2]
  ·rw[hR',hnum,if_neg h];simp only;rw[if_neg h2]
 rw[hDh]at HR;have HK:Hid (∀k,a<=k->k<a+n->∃h:k<s.size,Jd (s[k].toNat:Int)=true/\D.take (k+1-a)=D.take (k-a)++[s[k]]):=by
  intro k h1 h2;have hk:k<s.size:=by omega
  have he:D[k-a]?=some s[k]:=by
   rw[hD,List.getElem?_take_of_lt (by omega),List.getElem?_drop,show a+(k-a)=k from by omega,<-List.head?_drop,drop_cons s k hk];rfl
  refine⟨hk,hDa _ (List.mem_of_getElem? he),?_⟩;rw[show k+1-a=(k-a)+1 from by omega,List.take_add_one,he];rfl
 have HE:Hid (a+n=s.size∨∃h:a+n<s.size,Jd (s[a+n].toNat:Int)=false):=by
  have:=run_rest Jd (s.data.toList.drop a);rw[<-hnn,hrest]at this;rcases Nat.lt_or_ge (a+n) s.size with h|h
  ·right
   refine⟨h,?_⟩;rw[drop_cons s (a+n) h]at this;exact this.resolve_left (by simp)
  ·left;omega
 have HV:Hid (∀k,a<=k->k<=a+n->k<=a+19->Jy (D.take (k-a)) 0<10 ^ (k-a)):=by
  intro k h1 h2 h3;have:=digVal_lt (D.take (k-a)) 0 (fun c hc=>hDa c (List.mem_of_mem_take hc));rw[List.length_take,show min (k-a) D.length=k-a from by omega]at this;omega
 have hT:D.take n=D:=List.take_of_length_le (by omega);have HT:=J4 hT;have h20:Hid (20<=n->((s[a].toNat:Int)=48/\1<n)∨¬Jy D 0<=9223372036854775807):=by
  intro h;have:=digVal_20 hDa (by omega);rw[hDh,hDl]at this;exact this
 clear hR hR' hnum hn1 hnn hD hDa hDh hDn hrest hT hn;go_enter Tryz.func215,Tryz.ntmps215;go_wp2
 go_loop [5,6] (fun i u=>∃(k v:Nat),a<=k/\k<=a+n/\k<=a+19/\i=.int .i64 k/\u=.int .u64 (v:Int)/\Hid (v=Jy (D.take (k-a)) 0)) (fun i _=>s.size-(intOf i).toNat)
 case atStart=>exact⟨a,0,by omega,by omega,by omega,rfl,rfl,by show _=_;rw[Nat.sub_self];rfl⟩
 case round=>
  obtain⟨k,v,hk0,hk1,hk2,rfl,rfl,HU⟩:=hrel;by_cases hlt:k<a+n
  ·obtain⟨hks,hb,htk⟩:=J0 HK k hk0 hlt;have hlt':(k:Int)<(s.size:Int):=by omega
   by_cases h19:k=a+19
   ·have q:18<(k:Int)-(a:Int):=by omega
    have HW:Hid (JM 11 (a:Int)=R):=(J0 HR).1 (J0 h20 (by omega));clear HR HU HK HV HE h19 htk;go_wp2_with (first|(go_at_call 212;refine(Jp _ _).mono ?_;rintro e w' ⟨rfl,rfl⟩;rw[hb])|(go_at_call 217;refine(JG _ _ _).mono ?_;rintro e w1 ⟨rfl,hb1⟩;obtain⟨hc,hf⟩:=JS hb1;dsimp only[JM]));exact bodyPost_ret (v:=JM 11 (a:Int)) (by simp[results,Tryz.results215,go_sem,hc,JM]) rfl ⟨Jx (J0 HW),JN ((Below.refl _ _).alloc (Nat.le_refl _) _ |>.trans (hb1.mono (by simp))) (Nat.le_refl _) _ _ _ _ _ _ _⟩
   ·have q:(k:Int)-(a:Int)<=18:=by omega
    have hv:v<1000000000000000000:=by
     have h1:=J0 HV k hk0 hk1 hk2;rw[<-J0 HU]at h1;have h2:10 ^ (k-a)<=10 ^ 18:=Nat.pow_le_pow_right (by omega) (by omega);rw[show(10:Nat) ^ 18=1000000000000000000 from by decide]at h2;omega
    have hd48:48<=(s[k].toNat:Int)/\(s[k].toNat:Int)<=57:=by simpa[Jd]using hb
    obtain⟨d48,d57⟩:=hd48;have HN:Hid (v*10+(s[k].toNat-48)=Jy (D.take (k+1-a)) 0):=by
     show _=_;rw[htk,digVal_app,<-J0 HU];rfl
    clear HU HK HV HE h19 htk HR;go_wp2_with (first|(go_at_call 212;refine(Jp _ _).mono ?_;rintro e w' ⟨rfl,rfl⟩;rw[hb]))
    go_round
    case rel=>exact⟨k+1,v*10+(s[k].toNat-48),by omega,by omega,by omega,by go_num,by go_num,HN⟩
    case measure=>simp[intOf];omega
  ·have hk:k=a+n:=by omega
   have hv:v=Jy D 0:=by
    rw[J0 HU,hk,Nat.add_sub_cancel_left,J0 HT]
   have hv19:v<10000000000000000000:=by
    have h1:=J0 HV _ hk0 hk1 hk2;rw[<-J0 HU,hk,Nat.add_sub_cancel_left]at h1;have h2:10 ^ n<=10 ^ 19:=Nat.pow_le_pow_right (by omega) (by omega);rw[show(10:Nat) ^ 19=10000000000000000000 from by decide]at h2;omega
   rw[<-hv,<-hk]at HR;have HE2:=J0 HE;rw[<-hk]at HE2;clear HU HK HV HE HT h20 hv;have hnz:((s[a].toNat:Int)=48/\1<n)∨(((s[a].toNat:Int)==48)=true/\¬1<n)∨((s[a].toNat:Int)==48)=false:=by
    by_cases h:(s[a].toNat:Int)=48
    ·by_cases h2:1<n
     ·exact .inl ⟨h,h2⟩
     ·exact .inr (.inl ⟨by simp[h],h2⟩)
    ·exact .inr (.inr (by simpa using h))
   have hnot:((((s[a].toNat:Int)==48)=true/\¬1<n)∨((s[a].toNat:Int)==48)=false)->¬((s[a].toNat:Int)=48/\1<n):=by
    rintro(⟨_,h⟩|h) ⟨h1,h2⟩
    ·exact h h2
    ·rw[h1]at h;simp at h
   rcases HE2 with hend|⟨hks,hb⟩
   ·have hend':(k:Int)=(s.size:Int):=by omega
    rcases hnz with⟨z1,z2⟩|hzz
    ·have HW:Hid (JM 11 (a:Int)=R):=(J0 HR).1 (.inl ⟨z1,z2⟩);have z1':((s[a].toNat:Int)==48)=true:=by simp[z1]
     have z2':(a:Int)+1<(k:Int):=by omega
     clear HR hnot z1 z2 hk;go_wp2_with (first|(go_at_call 212;fail)|(go_at_call 217;refine(JG _ _ _).mono ?_;rintro e w1 ⟨rfl,hb1⟩;obtain⟨hc,hf⟩:=JS hb1;dsimp only[JM]));exact bodyPost_ret (v:=JM 11 (a:Int)) (by simp[results,Tryz.results215,go_sem,hc,JM]) rfl ⟨Jx (J0 HW),JN ((Below.refl _ _).alloc (Nat.le_refl _) _ |>.trans (hb1.mono (by simp))) (Nat.le_refl _) _ _ _ _ _ _ _⟩
    ·have hno:=hnot hzz;have hzz':(((s[a].toNat:Int)==48)=true/\(k:Int)<=(a:Int)+1)∨((s[a].toNat:Int)==48)=false:=or_map hzz (fun h=>⟨h.1,by omega⟩) id;clear hnot hzz;by_cases hbig:v<=9223372036854775807
     ·have hbig':¬9223372036854775808<=(v:Int):=by omega
      have HW:Hid (zao (a:Int) 4 ⟨#[]⟩ (v:Int) (k:Int)=R):=((J0 HR).2 (by rintro(h|h);exact hno h;exact h hbig)).2 (by rintro⟨h,_⟩;exact h (List.drop_of_length_le (by rw[zak];omega)));clear HR hno hbig hk;rcases hzz' with⟨z1,z2⟩|z1
      all_goals
       go_wp2_with (first|(go_at_call 212;fail));exact bodyPost_ret (v:=zao (a:Int) 4 ⟨#[]⟩ (v:Int) (k:Int)) (by simp[results,Tryz.results215,go_sem,zao];omega) rfl ⟨Jx (J0 HW),za7 _ _ _⟩
     ·have hbig':9223372036854775808<=(v:Int):=by omega
      have HW:Hid (JM 11 (a:Int)=R):=(J0 HR).1 (.inr hbig);clear HR hno hbig hk;rcases hzz' with⟨z1,z2⟩|z1
      all_goals
       go_wp2_with (first|(go_at_call 212;fail)|(go_at_call 217;refine(JG _ _ _).mono ?_;rintro e w1 ⟨rfl,hb1⟩;obtain⟨hc,hf⟩:=JS hb1;dsimp only[JM]));exact bodyPost_ret (v:=JM 11 (a:Int)) (by simp[results,Tryz.results215,go_sem,hc,JM]) rfl ⟨Jx (J0 HW),JN ((Below.refl _ _).alloc (Nat.le_refl _) _ |>.trans (hb1.mono (by simp))) (Nat.le_refl _) _ _ _ _ _ _ _⟩
   ·have hks':(k:Int)<(s.size:Int):=by omega
    rcases hnz with⟨z1,z2⟩|hzz
    ·have HW:Hid (JM 11 (a:Int)=R):=(J0 HR).1 (.inl ⟨z1,z2⟩);have z1':((s[a].toNat:Int)==48)=true:=by simp[z1]
     have z2':(a:Int)+1<(k:Int):=by omega
     clear HR hnot z1 z2 hk;go_wp2_with (first|(go_at_call 212;refine(Jp _ _).mono ?_;rintro e w' ⟨rfl,rfl⟩;rw[hb])|(go_at_call 217;refine(JG _ _ _).mono ?_;rintro e w1 ⟨rfl,hb1⟩;obtain⟨hc,hf⟩:=JS hb1;dsimp only[JM]));exact bodyPost_ret (v:=JM 11 (a:Int)) (by simp[results,Tryz.results215,go_sem,hc,JM]) rfl ⟨Jx (J0 HW),JN ((Below.refl _ _).alloc (Nat.le_refl _) _ |>.trans (hb1.mono (by simp))) (Nat.le_refl _) _ _ _ _ _ _ _⟩
    ·have hno:=hnot hzz;have hzz':(((s[a].toNat:Int)==48)=true/\(k:Int)<=(a:Int)+1)∨((s[a].toNat:Int)==48)=false:=or_map hzz (fun h=>⟨h.1,by omega⟩) id;clear hnot hzz;by_cases hbig:v<=9223372036854775807
     ·have hbig':¬9223372036854775808<=(v:Int):=by omega
      have hnm:Ji (Lx.hd (s.data.toList.drop k))=(zan (s[k].toNat:Int)||JQ (s[k].toNat:Int)||((s[k].toNat:Int)==95)):=by
       rw[hd_at s k hks,Ji,hb];simp
      have hne:s.data.toList.drop k≠[]:=by rw[drop_cons s k hks];simp
      have HR2:=(J0 HR).2 (by rintro(h|h);exact hno h;exact h hbig);rw[hnm]at HR2;clear HR hno hnm hbig hk;by_cases f1:zan (s[k].toNat:Int)=true
      ·have HW:Hid (JM 11 (a:Int)=R):=HR2.1 ⟨hne,by rw[f1];rfl⟩;clear HR2 hne;rcases hzz' with⟨z1,z2⟩|z1
       all_goals
        go_wp2_with (first|(go_at_call 212;refine(Jp _ _).mono ?_;rintro e w' ⟨rfl,rfl⟩;rw[hb])|(go_at_call 210;refine(Jr _ _).mono ?_;rintro e w' ⟨rfl,rfl⟩;rw[f1])|(go_at_call 217;refine(JG _ _ _).mono ?_;rintro e w1 ⟨rfl,hb1⟩;obtain⟨hc,hf⟩:=JS hb1;dsimp only[JM]));exact bodyPost_ret (v:=JM 11 (a:Int)) (by simp[results,Tryz.results215,go_sem,hc,JM]) rfl ⟨Jx (J0 HW),JN ((Below.refl _ _).alloc (Nat.le_refl _) _ |>.trans (hb1.mono (by simp))) (Nat.le_refl _) _ _ _ _ _ _ _⟩
      ·have f1:=(Bool.not_eq_true _).mp f1;by_cases f2:JQ (s[k].toNat:Int)=true
       ·have HW:Hid (JM 11 (a:Int)=R):=HR2.1 ⟨hne,by rw[f1,f2];rfl⟩;clear HR2 hne;rcases hzz' with⟨z1,z2⟩|z1
        all_goals
         go_wp2_with (first|(go_at_call 212;refine(Jp _ _).mono ?_;rintro e w' ⟨rfl,rfl⟩;rw[hb])|(go_at_call 210;refine(Jr _ _).mono ?_;rintro e w' ⟨rfl,rfl⟩;rw[f1])|(go_at_call 211;refine(Jk _ _).mono ?_;rintro e w' ⟨rfl,rfl⟩;rw[f2])|(go_at_call 217;refine(JG _ _ _).mono ?_;rintro e w1 ⟨rfl,hb1⟩;obtain⟨hc,hf⟩:=JS hb1;dsimp only[JM]));exact bodyPost_ret (v:=JM 11 (a:Int)) (by simp[results,Tryz.results215,go_sem,hc,JM]) rfl ⟨Jx (J0 HW),JN ((Below.refl _ _).alloc (Nat.le_refl _) _ |>.trans (hb1.mono (by simp))) (Nat.le_refl _) _ _ _ _ _ _ _⟩
       ·have f2:=(Bool.not_eq_true _).mp f2;by_cases f3:((s[k].toNat:Int)==95)=true
        ·have HW:Hid (JM 11 (a:Int)=R):=HR2.1 ⟨hne,by rw[f1,f2,f3];rfl⟩;clear HR2 hne;rcases hzz' with⟨z1,z2⟩|z1
         all_goals
          go_wp2_with (first|(go_at_call 212;refine(Jp _ _).mono ?_;rintro e w' ⟨rfl,rfl⟩;rw[hb])|(go_at_call 210;refine(Jr _ _).mono ?_;rintro e w' ⟨rfl,rfl⟩;rw[f1])|(go_at_call 211;refine(Jk _ _).mono ?_;rintro e w' ⟨rfl,rfl⟩;rw[f2])|(go_at_call 217;refine(JG _ _ _).mono ?_;rintro e w1 ⟨rfl,hb1⟩;obtain⟨hc,hf⟩:=JS hb1;dsimp only[JM]));exact bodyPost_ret (v:=JM 11 (a:Int)) (by simp[results,Tryz.results215,go_sem,hc,JM]) rfl ⟨Jx (J0 HW),JN ((Below.refl _ _).alloc (Nat.le_refl _) _ |>.trans (hb1.mono (by simp))) (Nat.le_refl _) _ _ _ _ _ _ _⟩
        ·have f3:=(Bool.not_eq_true _).mp f3;have HW:Hid (zao (a:Int) 4 ⟨#[]⟩ (v:Int) (k:Int)=R):=HR2.2 (by rintro⟨_,h⟩;rw[f1,f2,f3]at h;cases h);have e4:IntKind.i64.wrap (v:Int)=(v:Int):=by rw[IntKind.wrap_i64];omega
         have q9:decide ((9223372036854775808:Int)<=(v:Int))=false:=decide_eq_false hbig';clear HR2 hne hbig' hv19;rcases hzz' with⟨z1,z2⟩|z1
         all_goals
          go_wp2_with (first|(go_at_call 212;refine(Jp _ _).mono ?_;rintro e w' ⟨rfl,rfl⟩;rw[hb])|(go_at_call 210;refine(Jr _ _).mono ?_;rintro e w' ⟨rfl,rfl⟩;rw[f1])|(go_at_call 211;refine(Jk _ _).mono ?_;rintro e w' ⟨rfl,rfl⟩;rw[f2]));exact bodyPost_ret (v:=zao (a:Int) 4 ⟨#[]⟩ (v:Int) (k:Int)) (by simp[results,Tryz.results215,go_sem,zao]) rfl ⟨Jx (J0 HW),za7 _ _ _⟩
     ·have hbig':9223372036854775808<=(v:Int):=by omega
      have HW:Hid (JM 11 (a:Int)=R):=(J0 HR).1 (.inr hbig);clear HR hno hbig hk;rcases hzz' with⟨z1,z2⟩|z1
      all_goals
       go_wp2_with (first|(go_at_call 212;refine(Jp _ _).mono ?_;rintro e w' ⟨rfl,rfl⟩;rw[hb])|(go_at_call 217;refine(JG _ _ _).mono ?_;rintro e w1 ⟨rfl,hb1⟩;obtain⟨hc,hf⟩:=JS hb1;dsimp only[JM]));exact bodyPost_ret (v:=JM 11 (a:Int)) (by simp[results,Tryz.results215,go_sem,hc,JM]) rfl ⟨Jx (J0 HW),JN ((Below.refl _ _).alloc (Nat.le_refl _) _ |>.trans (hb1.mono (by simp))) (Nat.le_refl _) _ _ _ _ _ _ _⟩
end Go.Proofs.YtdamlfkieecnjaaGreatDoor
