import Derived.Test.YtdcbglnhhbmpgaaGreatDoorQRefB
import Derived.Deep.RegionWith
set_option maxHeartbeats 2000000
set_option maxRecDepth 100000
namespace Go.Proofs.YtdcbglnhhbmpgaaGreatDoor
open Go Go.RowKit Lx
namespace Lx
theorem self_lex {k:Int} {S:Bs} (L:k=1∨k=2∨k=3) (G:S.length<=65536) (h:JQ k S=true):lex S=([(0,k,S,0)],none):=by
 have I:sound (0,k,S,0)=true:=by
  rw[sound,Ye (by simp only;omega)];simp[h]
 have J:J5 (0,k,S,0)=S:=JB (by simp only;omega) (by simp only;omega);obtain⟨s,c,g⟩:=sound_cut (t:=(0,k,S,0)) (r:=[]) I (by simp) (.inl rfl);rw[J]at s c g;rw[X7]at g;obtain⟨u,_⟩:=begin_skip c;have j:S.drop (skip S)=S:=by rw[u];rfl
 have x:=Lay.tok S 0 k 0 S S.length [] (by rw[j];exact s) (by rw[j];exact c) (by rw[j];exact g) (Lay.done _ _ (by simp[Yg]));rw[u]at x;exact lex_of G x (by simp)
theorem lex_self {k v:Int} {S:Bs} {p:Nat} (t:k=1∨k=2∨k=3) (h:lex S=([(p,k,S,v)],none)):v=0/\JQ k S=true:=by
 obtain⟨_,g,_⟩:=lex_ok h;rcases g.back with⟨_,h⟩|⟨u,x,G,m,us,j,r,s,_,he⟩
 ·cases h
 ·cases he
  obtain⟨_,_,_,c,_⟩:=cut_is j r s;rw[sound,Ye (by simp only;omega),Yc]at c;exact⟨by simpa using c.1,c.2⟩
theorem sign_self (S:Bs):JQ 6 S=signRows.contains S:=by
 by_cases h:signRows.contains S=true
 ·have hm:S∈signRows:=by simpa using h
  have G:∀r∈signRows,JQ 6 r=true:=by decide +kernel
  rw[h,G S hm]
 ·have I:=(Yb _).mp h;rw[I];rw[<-Yb];intro j;apply h
  cases S with
  | nil=>simp[JQ]at j
  | cons c t=>
   simp only[JQ,Yc]at j;obtain⟨V,j⟩:=j;rcases g:cut (c::t)with⟨o,y⟩|⟨Y,J,Z,n⟩
   ·rw[g]at j;cases j
   ·rw[g]at j;simp only[Yc,Xn]at j;obtain⟨L,M⟩:=j;subst M L;unfold cut at g
    split at g
    ·unfold Jz at g
     split at g
     ·cases g
     ·split at g <;> cases g
    ·split at g
     ·unfold JX at g
      split at g <;> cases g
     ·split at g
      ·rename_i U;have x:=sign_two (c::t) U (by simp);unfold zaw at g
       split at g
       ·rename_i hp;rw[Ye hp]at x;injection g with g
        have s:2=(c::t).length:=by injection g with _ g;injection g with _ g;injection g
        cases t with
        | nil=>simp at s
        | cons d u=>
         have:u=[]:=YB (by simp only[Yk]at s;omega);subst this;simp[List.isPrefixOf]at hp;obtain⟨rfl,rfl⟩:=hp
         decide
       ·rename_i hp;rw[Y7 hp]at x;injection g with g
        have s:1=(c::t).length:=by injection g with _ g;injection g with _ g;injection g
        have:t=[]:=YB (by simp only[Yk]at s;omega);subst this;have:=List.mem_of_find?_eq_some x;simpa using this
      ·have:=(name_is g).2.2.1;rcases zld J with h|h|h <;> omega
end Lx
theorem app_esc (A:Zy) (s:Zy) (k:Nat) (g:k<s.size):(A++s.extract k (k+1)).data.toList=A.data.toList++[s[k]]/\(A++s.extract k (k+1)).size=A.size+1:=by
 have e:(s.extract k (k+1)).data.toList=[s[k]]:=by
  rw[zbe,drop_cons s k g];rfl
 have c:(A++s.extract k (k+1)).data.toList=A.data.toList++[s[k]]:=by
  rw[<-e];simp
 exact⟨c,by rw[<-zb2,c,<-zb2 A];simp⟩
theorem app_lit (A:Zy) (l:Bs):(A++⟨l.toArray⟩).data.toList=A.data.toList++l/\(A++⟨l.toArray⟩).size=A.size+l.length:=by
 have c:(A++(⟨l.toArray⟩:Zy)).data.toList=A.data.toList++l:=by simp
 exact⟨c,by rw[<-zb2,c,<-zb2 A];simp⟩
theorem quote_ends {A s:Zy} (h:A.data.toList=34::zh6 s.data.toList):A++⟨#[34]⟩=⟨(quote s.data.toList).toArray⟩:=by
 apply ByteArray.ext;apply Array.ext';rw[show(⟨#[34]⟩:Zy)=⟨[34].toArray⟩from rfl,(app_lit A [34]).1,h]
 rfl
theorem rQuote_any (s:Zy) (w:Zw) (hs:s.size<=1000000):Zg 101 #[.string s] w fun e w'=>e=.returned (.string ⟨(quote s.data.toList).toArray⟩)/\w=w':=by
 go_enter Tryz.func101,Tryz.ntmps101;go_wp2
 go_loop [3,4] (fun o i=>∃(k:Nat) (A:Zy),k<=s.size/\i=Zi k/\o=.string A/\A.size<=1+2*k/\ZH (34::zh6 s.data.toList=A.data.toList++zh6 (s.data.toList.drop k))) (fun _ i=>s.size-(intOf i).toNat)
 case atStart=>exact⟨0,⟨#[34]⟩,by omega,rfl,rfl,by decide,rfl⟩
 case round=>
  obtain⟨k,A,hk,rfl,rfl,hA,j⟩:=hrel;by_cases G:k<s.size
  ·have hd:=drop_cons s k G;have e:=J0 j;rw[hd,zbn]at e;have aa:(k:Int)<(s.size:Int):=by omega
   have sl:(Instr.slice 9 (.string s) (some (Zi (k:Int))) (some (Zi ((k:Int)+1))) none).run Tryz.prog w=.ok (.string (s.extract k (k+1))) w:=by
    have:=run_slice_string (P:=Tryz.prog) w 9 s .i64 .i64 (k:Int) ((k:Int)+1) Tryz.underlying9 (by omega) (by omega) (by omega);rw[this,show((k:Int)).toNat=k from by omega,show((k:Int)+1).toNat=k+1 from by omega]
   by_cases g:(s[k].toNat:Int)=10
   ·have Y:((s[k].toNat:Int)==10)=true:=by simp[g]
    obtain⟨c,a2⟩:=app_lit A [92,110];have t:ZH (34::zh6 s.data.toList=(A++⟨[92,110].toArray⟩).data.toList++zh6 (s.data.toList.drop (k+1))):=by
     show _=_;rw[c,e,zbm (n:=10) (by decide) g];simp[zm0]
    have u:(A++⟨[92,110].toArray⟩).size<=1+2*(k+1):=by rw[a2];simp;omega
    clear e g hd j c a2;go_wp2
    go_round
    case rel=>exact⟨k+1,_,by omega,by go_num,rfl,u,t⟩
    case measure=>simp[intOf];omega
   ·have Y:((s[k].toNat:Int)==10)=false:=by simpa using g
    have I:s[k]≠10:=fun h=>g (by rw[h];rfl)
    by_cases r:(s[k].toNat:Int)=34∨(s[k].toNat:Int)=92
    ·obtain⟨L,J⟩:=app_lit A [92];obtain⟨c,a2⟩:=app_esc (A++⟨[92].toArray⟩) s k G;have t:ZH (34::zh6 s.data.toList=((A++⟨[92].toArray⟩)++s.extract k (k+1)).data.toList++zh6 (s.data.toList.drop (k+1))):=by
      show _=_;rw[c,L,e];rcases r with h|h
      ·rw[zbm (n:=34) (by decide) h];simp[zm0]
      ·rw[zbm (n:=92) (by decide) h];simp[zm0]
     have u:((A++⟨[92].toArray⟩)++s.extract k (k+1)).size<=1+2*(k+1):=by rw[a2,J];simp;omega
     have ab:(A++⟨[92].toArray⟩).size<=2+2*k:=by rw[J];simp;omega
     have Z:((s[k].toNat:Int)==34)=true∨(((s[k].toNat:Int)==34)=false/\((s[k].toNat:Int)==92)=true):=by
      rcases r with h|h
      ·left;simp[h]
      ·right;constructor <;> simp[h]
     clear e g hd j c a2 L J I r;rcases Z with M|⟨M,q3⟩
     all_goals
      go_wp2
      go_round
      case rel=>exact⟨k+1,_,by omega,by go_num,rfl,u,t⟩
      case measure=>simp[intOf];omega
    ·have M:((s[k].toNat:Int)==34)=false:=by simp;omega
     have q3:((s[k].toNat:Int)==92)=false:=by simp;omega
     have U:s[k]≠34:=fun h=>r (.inl (by rw[h];rfl))
     have V:s[k]≠92:=fun h=>r (.inr (by rw[h];rfl))
     obtain⟨c,a2⟩:=app_esc A s k G;have t:ZH (34::zh6 s.data.toList=(A++s.extract k (k+1)).data.toList++zh6 (s.data.toList.drop (k+1))):=by
      show _=_;rw[c,e,zm0,Y7 I,Y7 U,Y7 V];simp
     have u:(A++s.extract k (k+1)).size<=1+2*(k+1):=by rw[a2];omega
     clear e g hd j c a2 I U V r;go_wp2
     go_round
     case rel=>exact⟨k+1,_,by omega,by go_num,rfl,u,t⟩
     case measure=>simp[intOf];omega
  ·have HE:ZH (A++⟨#[34]⟩=⟨(quote s.data.toList).toArray⟩):=by
    have e:=J0 j;rw[Yg (i:=k) (by simp;omega)]at e;exact quote_ends (by rw[e];simp[zh6])
   clear j;go_wp2;go_ret;exact⟨congrArg (fun x=>Ending.returned (Value.string x)) HE,rfl⟩
theorem str1 (W:Zw) (b:Nat) (x:UInt8) (v:Int) (c:v=(x.toNat:Int)) (h:W.cell? ⟨b,0,none⟩=some (.int .u8 v)) :
  (convert 120 9 (.slice (Zs b 0) 1 1)).run Tryz.prog W=.ok (.string ⟨#[x]⟩) W:=by
 subst c;refine run_convert_bytes_back (P:=Tryz.prog) W 120 9 5 ⟨b,0,none⟩ 1 [x] Tryz.underlying120 Tryz.underlying5 Tryz.underlying9 fun j g=>?_
 have:j=0:=by simp at g;omega
 subst this;exact h
theorem str1_new (W:Zw) (x:UInt8) (v:Int) (c:v=(x.toNat:Int)) :
  (convert 120 9 (.slice (Zs W.heap.size 0) 1 1)).run Tryz.prog (W.alloc (.cells #[.int .u8 v] 5))=.ok (.string ⟨#[x]⟩) (W.alloc (.cells #[.int .u8 v] 5)):=
 str1 _ _ x v c (by rw[Ya _ _ _ _ (by rfl)];rfl)
theorem str1_drew (W:Zw) (x:UInt8) (v:Int) (c:v=(x.toNat:Int)) :
  (convert 120 9 (.slice (Zs W.heap.size 0) 1 1)).run Tryz.prog (W.alloc (.cells #[.int .u8 v] 5)).drew=.ok (.string ⟨#[x]⟩) (W.alloc (.cells #[.int .u8 v] 5)).drew:=
 str1 _ _ x v c (by show(W.alloc (.cells #[.int .u8 v] 5)).cell? _=_;rw[Ya _ _ _ _ (by rfl)];rfl)
theorem str1_below {W w1:Zw} (x:UInt8) (v:Int) (c:v=(x.toNat:Int)) (g:Below (W.alloc (.cells #[.int .u8 v] 5)).drew.heap.size (W.alloc (.cells #[.int .u8 v] 5)).drew w1) :
  (convert 120 9 (.slice (Zs W.heap.size 0) 1 1)).run Tryz.prog w1=.ok (.string ⟨#[x]⟩) w1:=
 str1 _ _ x v c ((g.cell (p:=⟨W.heap.size,0,none⟩) (by show W.heap.size<(W.alloc _).heap.size;simp)).trans (by show(W.alloc (.cells #[.int .u8 v] 5)).cell? _=_;rw[Ya _ _ _ _ (by rfl)];rfl))
theorem app_one (l:Bs) (x:UInt8):(⟨l.toArray⟩++⟨#[x]⟩:Zy)=⟨(l++[x]).toArray⟩:=by
 apply ByteArray.ext;apply Array.ext';simp
theorem undrew {w W:Zw} (h:Below w.drew.heap.size w.drew W):ZB w W:=⟨h.os,h.tape,h.output,h.size,h.block⟩
theorem dig_byte {d:Nat} (h:d<10):(48+(d:Int))=((UInt8.ofNat (48+d)).toNat:Int):=by
 rw[UInt8.toNat_ofNat'];omega
theorem Digits_any (n:Nat) (U:n<=9223372036854775807) (w:Zw) :
  ZC 99 #[Zi n] w (.string ⟨(Lib.decDigits n).toArray⟩):=by
 induction n using Nat.strongRecOn generalizing w with
 | _ n t=>
  by_cases h:n<10
  ·obtain⟨x,j,c⟩:∃x:UInt8,Lib.decDigits n=[x]/\48+(n:Int)=(x.toNat:Int):=⟨_,by rw[Lib.decDigits,dif_pos h],dig_byte h⟩
   have u:=J3 j;have J:=fun W=>str1_new W x (48+n) c
   clear t c j;go_enter Tryz.func99,Tryz.ntmps99;go_wp2;go_ret;exact⟨by rw[J0 u];rfl,Za _ _⟩
  ·obtain⟨q,I⟩:=Ze (n / 10:Nat)
   obtain⟨r,G⟩:=Ze (n % 10:Nat)
   obtain⟨x,j,c⟩:∃x:UInt8,Lib.decDigits n=Lib.decDigits q++[x]/\48+(r:Int)=(x.toNat:Int):=⟨_,by rw[Lib.decDigits,dif_neg h,I],by rw[G];exact dig_byte (by omega)⟩
   have u:=J3 j;have L:=J3 (fun W=>t q (by omega) (by omega) W);have V:ByteArray.size ⟨(Lib.decDigits q).toArray⟩<=20:=by show(Lib.decDigits q).toArray.size<=_;rw[List.size_toArray,Lib.decDigits_length];exact Lib.nDigits_le20 _ (by omega)
   have Y:(Lib.decDigits q).length<=20:=by rw[Lib.decDigits_length];exact Lib.nDigits_le20 _ (by omega)
   have J:=fun W=>str1_new W x (48+r) c
   have Z:=fun W=>str1_drew W x (48+r) c
   have M:=J3 (fun W w1 g=>str1_below (W:=W) (w1:=w1) x (48+r) c g);have e1:IntKind.i64.wrap ((n:Int) / 10)=(q:Int):=by rw[YJ];omega
   have e2:(n:Int).tmod 10=(r:Int):=by rw[G];simp[Int.tmod]
   have e3:IntKind.i64.wrap (48+(r:Int))=48+(r:Int):=by rw[YJ];omega
   have e4:IntKind.u8.wrap (48+(r:Int))=48+(r:Int):=by rw[IntKind.wrap_u8];omega
   clear t j I G c;go_enter Tryz.func99,Tryz.ntmps99;go_wp2
   go_region_with (go_at_call 99;refine(L _).mono ?_;rintro e w1 ⟨rfl,g⟩;obtain⟨aa,ab⟩:=zbz g;have hz:=g.size;try (have kd:=M _ _ g))
   all_goals
    go_wp2;go_ret;refine⟨by rw[J0 u];exact congrArg (fun s=>Ending.returned (Value.string s)) (app_one _ _),?_⟩
    first
    | exact(undrew g).alloc hz _
    | exact(Za _ _).trans ((undrew g).mono (by simp))
def ROne (w:Zw) (t:Tok) (e:Ending) (W':Zw):Prop:=
 ∃X:Zy,e=.returned (.tuple #[.string X,.bool (sound t)])/\(sound t=true->X=⟨(J5 t).toArray⟩)/\ZB w W'
theorem ROne.no {w W':Zw} {t:Tok} {X:Zy} (h:sound t=false) (g:ZB w W'):ROne w t (.returned (.tuple #[.string X,.bool false])) W':=⟨X,by rw[h],fun c=>(by rw[h]at c;cases c),g⟩
theorem ROne.yes {w W':Zw} {t:Tok} {X:Zy} (h:sound t=true) (c:X=⟨(J5 t).toArray⟩) (g:ZB w W'):ROne w t (.returned (.tuple #[.string X,.bool true])) W':=⟨X,by rw[h],fun _=>c,g⟩
theorem back_data (s:Zy):s=⟨s.data.toList.toArray⟩:=by cases s;simp
theorem rOne_num (a v:Int) (s:Zy) (w:Zw) (g:s.size<=1000000) (v1:v<=9223372036854775807) :
  Zg 58 #[.agg #[Zi a,Zi 4,.string s,Zi v]] w fun e W'=>ROne w (0,4,s.data.toList,v) e W':=by
 by_cases x:v<0
 ·have c:ZH (sound (0,4,s.data.toList,v)=false):=by show _=_;simp[sound];omega
  go_enter Tryz.func58,Tryz.ntmps58;go_wp2;go_ret2;exact ROne.no c (Za _ _)
 ·by_cases he:s.data.toList=[]
  ·have j:s=⟨#[]⟩:=by rw[back_data s,he]
   subst j;obtain⟨n,rfl⟩:∃n:Nat,v=(n:Int):=⟨v.toNat,by omega⟩
   have r:ZH (sound (0,4,[],(n:Int))=true):=num_sound n;have t:=J3 (fun W=>Digits_any n (by omega) W);clear he g;go_enter Tryz.func58,Tryz.ntmps58;go_wp2_with (go_at_call 99;refine(t _).mono ?_;rintro e w1 ⟨rfl,u⟩);go_ret2;exact ROne.yes r (by rw[zd2]) ((Za _ _).trans (u.mono (by simp)))
  ·have c:ZH (sound (0,4,s.data.toList,v)=false):=by
    show _=_;simp[sound];intro h;exact absurd (by rw[h]) he
   have q:(s.toList==[])=false:=by rw[Y3,toList_data];exact he
   have G:s.toList.isEmpty=false:=by rw[toList_data,List.isEmpty_eq_false_iff];exact he
   clear he;go_enter Tryz.func58,Tryz.ntmps58;go_wp2;go_ret2;exact ROne.no c (Za _ _)
theorem rOne_else (a k v:Int) (s:Zy) (w:Zw) (h:k<1∨6<k) :
  Zg 58 #[.agg #[Zi a,Zi k,.string s,Zi v]] w fun e W'=>ROne w (0,k,s.data.toList,v) e W':=by
 have c:ZH (sound (0,k,s.data.toList,v)=false):=by
  show _=_;rw[sound,Y7 (by simp only;omega),Y7 (by simp only;omega),Y7 (by simp only;omega)]
 have g:(k==1)=false:=by simp;omega
 have j:(k==2)=false:=by simp;omega
 have r:(k==3)=false:=by simp;omega
 have t:(k==4)=false:=by simp;omega
 have u:(k==5)=false:=by simp;omega
 have x:(k==6)=false:=by simp;omega
 clear h;go_enter Tryz.func58,Tryz.ntmps58;go_wp2;go_ret2;exact ROne.no c (Za _ _)
theorem rOne_text (a v:Int) (s:Zy) (w:Zw) (I:s.size<=1000000) :
  Zg 58 #[.agg #[Zi a,Zi 5,.string s,Zi v]] w fun e W'=>ROne w (0,5,s.data.toList,v) e W':=by
 have t:=J3 (fun W=>rQuote_any s W I);go_enter Tryz.func58,Tryz.ntmps58;go_wp2
 go_loop [7] (fun i=>∃k:Nat,k<=s.size/\i=Zi k/\ZH (JS s.data.toList=JS (s.data.toList.drop k))) (fun i=>s.size-(intOf i).toNat)
 case atStart=>exact⟨0,by omega,rfl,rfl⟩
 case round=>
  obtain⟨k,U,rfl,g⟩:=hrel;by_cases J:k<s.size
  ·have hd:=drop_cons s k J;have e:=J0 g;rw[hd,zbc]at e;have V:(k:Int)<(s.size:Int):=by omega
   have j:sayB s[k]=((s[k].toNat:Int)==10||zbf (s[k].toNat:Int)):=by
    rw[sayB]
    congr 1
    rw[Bool.eq_iff_iff,Xn,Xn]
    constructor
    ·intro h;rw[h];rfl
    ·intro h;exact zbm (n:=10) (by decide) h
   by_cases c:((s[k].toNat:Int)==10||zbf (s[k].toNat:Int))=true
   ·have L:ZH (JS s.data.toList=JS (s.data.toList.drop (k+1))):=by
     show _=_;rw[e,j,c];rfl
    clear e hd g j;go_wp2_with (go_at_call 100;refine(zhu _ _).mono ?_;rintro e w' ⟨rfl,rfl⟩;rw[c])
    go_round
    case rel=>exact⟨k+1,by omega,by go_num,L⟩
    case measure=>simp[intOf];omega
   ·have c:=(Yb _).mp c;have M:ZH (sound (0,5,s.data.toList,v)=false):=by
     show _=_;rw[sound,Y7 (by simp),Y7 (by simp),Ye rfl];show(v==0&&JS s.data.toList)=false;rw[e,j,c];simp
    clear e hd g j;go_wp2_with (go_at_call 100;refine(zhu _ _).mono ?_;rintro e w' ⟨rfl,rfl⟩;rw[c]);go_ret2;exact ROne.no M (Za _ _)
  ·have u:JS s.data.toList=true:=by
    have e:=J0 g;rw[Yg (i:=k) (by simp;omega)]at e;exact e
   have x:sound (0,5,s.data.toList,v)=(v==0):=by
    rw[sound,Y7 (by simp),Y7 (by simp),Ye rfl];show(v==0&&JS s.data.toList)=_;rw[u];simp
   have G:=J3 x;clear g u x;by_cases r:v=0
   ·have q:(v==0)=true:=by simpa using r
    clear r;go_wp2;go_quiet ((go_at_call 101;exact Calls.quiet_of_same ((t _).mono fun _ _ h=>⟨h.1,h.2.symm⟩)));go_wp2;go_ret2;exact ROne.yes (by rw[J0 G,q]) (by rw[zbl]) (Yw (Za _ _) _)
   ·have q:(v==0)=false:=by simpa using r
    clear r;go_wp2;go_quiet ((go_at_call 101;exact Calls.quiet_of_same ((t _).mono fun _ _ h=>⟨h.1,h.2.symm⟩)));go_wp2;go_ret2;exact ROne.no (by rw[J0 G,q]) (Yw (Za _ _) _)
theorem data_inj {a b:Zy} (h:a.data.toList=b.data.toList):a=b:=by apply ByteArray.ext;apply Array.ext';exact h
theorem rOne_sign (a v:Int) (s:Zy) (w:Zw) :
  Zg 58 #[.agg #[Zi a,Zi 6,.string s,Zi v]] w fun e W'=>ROne w (0,6,s.data.toList,v) e W':=by
 have L:sound (0,6,s.data.toList,v)=(v==0&&signRows.contains s.data.toList):=by
  rw[sound,Ye (by simp),<-sign_self]
 have r:=J3 L;clear L;go_enter Tryz.func58,Tryz.ntmps58;go_wp2_with (go_at_call 102;refine(zje _).mono ?_;rintro e wv ⟨rfl,rfl⟩);obtain⟨O,t⟩:=Ze (.cells #[Zi a,Zi 6,.string s,Zi v] 112:Obj)
 have g:=J3 (zm9 (w.alloc O));simp only[World.size_alloc]at g;have t2:((w.alloc O).alloc (.cells zat 9)).cell? ⟨w.heap.size,2,none⟩=some (.string s):=(Yl _ _ _ (by simp)).trans (by rw[t,Ya _ _ _ _ (by rfl)];rfl);have t3:((w.alloc O).alloc (.cells zat 9)).cell? ⟨w.heap.size,3,none⟩=some (Zi v):=(Yl _ _ _ (by simp)).trans (by rw[t,Ya _ _ _ _ (by rfl)];rfl);have j:ZB w ((w.alloc O).alloc (.cells zat 9)):=zfx _ _ _;have M:((w.alloc O).alloc (.cells zat 9)).heap.size=w.heap.size+2:=by simp
 rw[<-t];clear t
 revert g t2 t3 j M
 generalize (w.alloc O).alloc (.cells zat 9)=W1;clear O;intro g t2 t3 j M
 go_loopw [9] (fun i wr=>∃k:Nat,k<=14/\i=Zi k/\ZB W1 wr/\ZH (signRows.contains s.data.toList=(signRows.drop k).contains s.data.toList)) (fun i _=>14-(intOf i).toNat)
 case atStart=>exact⟨0,by omega,rfl,Zr,rfl⟩
 case round=>
  obtain⟨k,hk,rfl,c,u⟩:=hrel;have ad:=c.size;by_cases U:k<14
  ·have G:=(c.cell (p:=⟨w.heap.size+1,k,none⟩) (by show w.heap.size+1<W1.heap.size;omega)).trans (g k U);have r2:=(c.cell (p:=⟨w.heap.size,2,none⟩) (by show w.heap.size<W1.heap.size;omega)).trans t2;have r3:=(c.cell (p:=⟨w.heap.size,3,none⟩) (by show w.heap.size<W1.heap.size;omega)).trans t3;have ae:(k:Int)<14:=by omega
   have V:signRows.drop k=signRows.getD k []::signRows.drop (k+1):=by
    have Y:k<signRows.length:=U;rw[Yt Y,Yo,Y6 Y];rfl
   have e:=J0 u;rw[V,List.contains_cons]at e;clear V u
   revert G e
   generalize signRows.getD k []=row;intro G e;obtain⟨F,I⟩:∃F:Zy,(⟨row.toArray⟩:Zy)=F:=⟨_,rfl⟩
   have Z:row=F.data.toList:=by rw[<-I]
   rw[I]at G;rw[Z]at e;clear I Z;by_cases hw:F=s
   ·have aa:signRows.contains s.data.toList=true:=by rw[e,hw];simp
    have q:(F.toList==s.toList)=true:=by rw[hw];simp
    have ab:ZH (sound (0,6,s.data.toList,v)=(v==0)):=by show _=_;rw[J0 r,aa];simp
    clear e hw aa r t2 t3 g;by_cases x:v=0
    ·have J:(v==0)=true:=by simpa using x
     clear x;go_wp2;go_quiet (fail);go_wp2;go_quiet (fail);go_wp2;go_ret2;exact ROne.yes (by rw[J0 ab,J]) (by rw[JB (by simp) (by simp)]) (Yw (Yw (j.trans (c.mono (by omega))) _) _)
    ·have J:(v==0)=false:=by simpa using x
     clear x;go_wp2;go_quiet (fail);go_wp2;go_quiet (fail);go_wp2;go_ret2;exact ROne.no (by rw[J0 ab,J]) (Yw (Yw (j.trans (c.mono (by omega))) _) _)
   ·have q:(F.toList==s.toList)=false:=by
     rw[Y3,toList_data,toList_data];exact fun h=>hw (data_inj h)
    have HN:ZH (signRows.contains s.data.toList=(signRows.drop (k+1)).contains s.data.toList):=by
     show _=_;rw[e,show(s.data.toList==F.data.toList)=false from by rw[Y3];exact fun h=>hw (data_inj h.symm)]
     rfl
    clear e hw t2 t3 g r3;go_wp2;go_quiet (fail);go_wp2;go_roundw
    case rel=>exact⟨k+1,by omega,by go_num,Yw c _,HN⟩
    case measure=>simp[intOf];omega
  ·have ac:ZH (sound (0,6,s.data.toList,v)=false):=by
    have e:=J0 u;rw[show signRows.drop k=[]from Yg (by simp[signRows];omega)]at e;show _=_;rw[J0 r,e];simp
   clear u r;go_wp2;go_ret2;exact ROne.no ac (j.trans (c.mono (by omega)))
theorem lexF_why:∀(f:Nat) (l:Bs) (a n p y:Nat),(lexF f l a n).2=some (p,y)->2<=y/\y<=12
 | 0,l,a,n,p,y,h=>by simp[lexF]at h
 | f+1,l,a,n,p,y,h=>by
  rw[lexF]at h
  split at h
  ·cases h
  ·rcases hx:next (l.drop (skip l)) n with⟨o,z⟩|⟨k,s,v,m⟩
   ·rw[hx]at h;simp only[Option.some.injEq,Prod.mk.injEq]at h;have:=next_why hx;omega
   ·rw[hx]at h;exact lexF_why f _ _ _ p y h
theorem lex_why {l:Bs} {p y:Nat} (h:(lex l).2=some (p,y)):2<=y/\y<=12:=by
 rw[lex]at h
 split at h
 ·simp only[Option.some.injEq,Prod.mk.injEq]at h;omega
 ·exact lexF_why _ _ _ _ _ _ h
theorem name_sound {k v:Int} {S:Bs} (s:k=1∨k=2∨k=3) (I:S.length<=65536) :
  sound (0,k,S,v)=(((rwhy (lex S).2:Int)==0)&&(((lex S).1.length:Int)==1)&&(((lex S).1.getD 0 (0,0,[],0)).2.1==k)&&(((lex S).1.getD 0 (0,0,[],0)).2.2.1==S)&&(v==0)):=by
 have J:sound (0,k,S,v)=(v==0&&JQ k S):=by rw[sound,Ye (by simp only;omega)]
 rw[J];by_cases c:JQ k S=true
 ·rw[self_lex s I c,c];simp[rwhy]
 ·have L:=(Yb _).mp c;rw[L,Xw];rw[eq_comm,<-Yb];intro h;apply c;simp only[Yc,Xn]at h;obtain⟨⟨⟨⟨u,G⟩,g⟩,j⟩,_⟩:=h;rcases hl:lex S with⟨M,r⟩
  rw[hl]at u G g j;have U:r=none:=by
   cases r with
   | none=>rfl
   | some x=>
    exfalso;have:∃p y,x=(p,y):=⟨x.1,x.2,rfl⟩
    obtain⟨p,y,rfl⟩:=this;have V:y=0:=by simpa[rwhy]using u
    have:(lex S).2=some (p,y):=by rw[hl]
    have:=lex_why this;omega
  match M,G with
  | [t],_=>
   obtain⟨p,Y,Z,v'⟩:=t;simp at g j;subst g j U;exact(lex_self s hl).2
theorem rOne_name (a k v:Int) (s:Zy) (w:Zw) (hs:s.size<=60000) (hk:k=1∨k=2∨k=3) :
  Zg 58 #[.agg #[Zi a,Zi k,.string s,Zi v]] w fun e W'=>ROne w (0,k,s.data.toList,v) e W':=by
 have M:=name_sound (v:=v) hk (S:=s.data.toList) (by rw[zb2];omega);have J:=J3 (fun W=>rTokens_any s (by omega) W);have ab:(rwhy (lex s.data.toList).2:Int)<=12:=by
  cases h:(lex s.data.toList).2 with
  | none=>simp[rwhy]
  | some x=>obtain⟨p,y⟩:=x;have:=lex_why h;simp[rwhy];omega
 unfold RTokens at J
 revert J M ab
 generalize (lex s.data.toList).1=ts;generalize rwhy (lex s.data.toList).2=y;generalize rplace (lex s.data.toList).2=pl;intro M J ab;obtain⟨O,L⟩:=Ze (.cells #[Zi a,Zi k,.string s,Zi v] 112:Obj)
 have y1:(w.alloc O).cell? ⟨w.heap.size,1,none⟩=some (Zi k):=by rw[L,Ya _ _ _ _ (by rfl)];rfl
 have y2:(w.alloc O).cell? ⟨w.heap.size,2,none⟩=some (.string s):=by rw[L,Ya _ _ _ _ (by rfl)];rfl
 have y3:(w.alloc O).cell? ⟨w.heap.size,3,none⟩=some (Zi v):=by rw[L,Ya _ _ _ _ (by rfl)];rfl
 have ac:ZB w (w.alloc O):=Za _ _;have r:=J3 M;have HO:=J3 L;have ad:(k==1)=true∨((k==1)=false/\(k==2)=true)∨((k==1)=false/\(k==2)=false/\(k==3)=true):=by
  rcases hk with rfl|rfl|rfl <;> simp
 clear M hk L;rcases ad with g1|⟨g1,g2⟩|⟨g1,g2,g3⟩
 all_goals
  go_enter Tryz.func58,Tryz.ntmps58;go_wp2_with (go_at_call 98;refine(J _).mono ?_;clear J;rintro e w1 ⟨u,tv,rfl,aa⟩);rw[<-J0 HO]at u aa;have z1:=(u.cell (p:=⟨w.heap.size,1,none⟩) (by simp)).trans y1;have z2:=(u.cell (p:=⟨w.heap.size,2,none⟩) (by simp)).trans y2;have z3:=(u.cell (p:=⟨w.heap.size,3,none⟩) (by simp)).trans y3;have G:ZB w w1:=ac.trans (u.mono (by simp));have ae:=TokRow.of_owns aa;obtain⟨p,c,rfl,hp⟩:=ae;clear y1 y2 y3 u aa HO ac;by_cases U:((y:Int)==0)=true
  ·by_cases V:((ts.length:Int)==1)=true
   ·match ts,V with
    | [t],_=>
     obtain⟨p0,k0,S0,v0⟩:=t;obtain⟨g,o,rfl,a0,a1,a2,a3⟩:=hp 0 _ rfl;have ag:(([((p0,k0,S0,v0):Tok)].length:Nat):Int)=1:=rfl;obtain⟨F,hF⟩:=Ze (⟨S0.toArray⟩:Zy)
     have Y:S0=F.data.toList:=by rw[hF]
     simp only at a1 a2;rw[<-hF]at a2;have e:=J0 r;simp only[List.getD_cons_zero,Y]at e;clear hF hp a0 a3 r;simp only[Xt,Xs]at a1 a2;by_cases Z:(k0==k)=true
     ·by_cases I:F=s
      ·have q4:(F.toList==s.toList)=true:=by rw[I];simp
       have j:ZH (sound (0,k,s.data.toList,v)=(v==0)):=by
        show _=_;rw[e,U,Z,I];simp
       have af:k=1∨k=2∨k=3:=by
        first
        | exact .inl (by simpa using g1)
        | exact .inr (.inl (by simpa using g2))
        | exact .inr (.inr (by simpa using g3))
       have HX:ZH (s=⟨(J5 (0,k,s.data.toList,v)).toArray⟩):=by
        show _=_;rw[JB (by simp only;omega) (by simp only;omega)]
       clear e Y I af;by_cases qv:(v==0)=true
       ·go_quiet (fail);go_wp2;go_ret2;exact ROne.yes (by rw[J0 j,qv]) HX (Yw G _)
       ·have qv:=(Yb _).mp qv;go_quiet (fail);go_wp2;go_ret2;exact ROne.no (by rw[J0 j,qv]) (Yw G _)
      ·have q4:(F.toList==s.toList)=false:=by
        rw[Y3,toList_data,toList_data];exact fun h=>I (data_inj h)
       have j:ZH (sound (0,k,s.data.toList,v)=false):=by
        show _=_;rw[e,show(F.data.toList==s.data.toList)=false from by rw[Y3];exact fun h=>I (data_inj h)];simp
       clear e Y I;go_quiet (fail);go_wp2;go_ret2;exact ROne.no j (Yw G _)
     ·have Z:=(Yb _).mp Z;have j:ZH (sound (0,k,s.data.toList,v)=false):=by
       show _=_;rw[e,Z];simp
      clear e Y;go_quiet (fail);go_wp2;go_ret2;exact ROne.no j (Yw G _)
   ·have V:=(Yb _).mp V;have j:ZH (sound (0,k,s.data.toList,v)=false):=by
     show _=_;rw[J0 r,V];simp
    clear r hp;go_quiet (fail);go_wp2;go_ret2;exact ROne.no j (Yw G _)
  ·have U:=(Yb _).mp U;have j:ZH (sound (0,k,s.data.toList,v)=false):=by
    show _=_;rw[J0 r,U];simp
   clear r hp;go_quiet (fail);go_wp2;go_ret2;exact ROne.no j (Yw G _)
theorem rOne_any (a k v:Int) (s:Zy) (w:Zw) (c:s.size<=60000) (v1:v<=9223372036854775807) :
  Zg 58 #[.agg #[Zi a,Zi k,.string s,Zi v]] w fun e W'=>ROne w (0,k,s.data.toList,v) e W':=by
 by_cases g:k=1∨k=2∨k=3
 ·exact rOne_name a k v s w c g
 ·by_cases h:k=4
  ·subst h;exact rOne_num a v s w (by omega) v1
  ·by_cases j:k=5
   ·subst j;exact rOne_text a v s w (by omega)
   ·by_cases r:k=6
    ·subst r;exact rOne_sign a v s w
    ·exact rOne_else a k v s w (by omega)
end Go.Proofs.YtdcbglnhhbmpgaaGreatDoor
