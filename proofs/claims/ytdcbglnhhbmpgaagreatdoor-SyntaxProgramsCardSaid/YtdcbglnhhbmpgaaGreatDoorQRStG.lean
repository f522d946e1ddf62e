import Derived.Test.YtdcbglnhhbmpgaaGreatDoorQXRef
set_option maxHeartbeats 4000000
set_option maxRecDepth 100000
namespace Go.Proofs.YtdcbglnhhbmpgaaGreatDoor
open Go Go.RowKit Lx
def refS1 (room K:Int) (x:Nat) (c:Bool):Bool:=!decide (room=0)&&decide (1<=K)&&decide (K<=7)&&decide (x=1)&&c
def zlr (K:Int):Bool:=decide (K=1)||decide (K=2)
def zig (K:Int) (S:Bs) (t:Nat) (zs c:Bool):Bool:=(zlr K == !S.isEmpty)&&(!zlr K||zs)&&decide (t<=1)&&(!decide (t=1)||(decide (K=1)&&c))
def refS3 (K:Int) (b e:Nat) (c g:Bool):Bool:=(decide (b=0)||decide (K=4)||decide (K=5))&&(decide (e=0)||decide (K=4))&&c&&g
def RSt (w:Zw) (p:Zo) (k:Nat) (room:Int) (z:Bool):Prop:=
 ∃(g o:Nat) (A K:Int) (S:Bs) (pt px pb pe:Zo) (t x b e ct cx cb ce:Nat) (L zs M U V:Bool),p=some ⟨g,o,none⟩ /\
  (ZK7 w g (o+k*7) (Zi A) (Zi K) (.string ⟨S.toArray⟩) (.slice pt t ct) (.slice px x cx) (.slice pb b cb) (.slice pe e ce)) /\
  (x=1->∃(g o:Nat) (Y c Z:Int) (S':Zy) (h j r:Zo) (s u G I J c3:Nat),px=some ⟨g,o,none⟩/\(ZK7 w g o (Zi Y) (Zi c) (Zi Z) (.string S') (.slice h s I) (.slice j u J) (.slice r G c3)) /\
   ∀W,ZB w W->ZC 71 #[.agg #[Zi Y,Zi c,Zi Z,.string S',.slice h s I,.slice j u J,.slice r G c3],Zi 64] W (.bool L)) /\
  (∀W,ZC 42 #[.string ⟨S.toArray⟩] W (.bool zs)) /\
  (t=1->∃(g o:Nat) (c:Int) (S':Zy) (h j r:Zo) (s u G I J c3:Nat),pt=some ⟨g,o,none⟩/\(ZK5 w g o (Zi c) (.string S') (.slice h s I) (.slice j u J) (.slice r G c3)) /\
   ∀W,ZB w W->ZC 33 #[.agg #[Zi c,.string S',.slice h s I,.slice j u J,.slice r G c3],Zi 64] W (.bool M)) /\
  (0<room->∀W,ZB w W->ZC 43 #[.slice pb b cb,Zi (room-1)] W (.bool U)) /\
  (0<room->∀W,ZB w W->ZC 43 #[.slice pe e ce,Zi (room-1)] W (.bool V)) /\
  z=(refS1 room K x L&&zig K S t zs M&&refS3 K b e U V)
theorem wrap_pred {room:Int} (c:0<room) (g:room<=1000):IntKind.i64.wrap (room-1)=room-1:=by rw[YJ];omega
theorem rst_run (p:Zo) (n c:Nat) (room:Int) (w:Zw) (z:Nat->Bool) (hn:n<=1000000) (h0:0<=room) (h1:room<=1000) (hP:∀k,k<n->RSt w p k room (z k)) :
  ZC 43 #[.slice p n c,Zi room] w (.bool (zlc n z)):=by
 have HP:=J3 hP;obtain⟨ag,aj⟩:=Ze (zlc n z)
 have ad:=J3 aj;rw[<-aj];clear hP aj;go_enter Tryz.func43,Tryz.ntmps43;go_wp2
 go_loopw [5] (fun i wr=>∃k:Nat,i=Zi k/\k<=n/\ZH (zlc k z=true)/\ZH (ZB w wr)) (fun i _=>n-(intOf i).toNat)
 case atStart=>exact⟨0,rfl,by omega,rfl,Zr⟩
 case round=>
  obtain⟨k,rfl,hk,HK,HB⟩:=hrel;by_cases ak:k<n
  rotate_left
  ·obtain rfl:k=n:=by omega
   have aF:¬(k:Int)<(k:Int):=by omega
   have HF:ZH (ag=true):=by show _=_;rw[J0 ad];exact HK
   go_wp2;go_ret;exact⟨by rw[J0 HF];rfl,HB⟩
  have aF:(k:Int)<(n:Int):=by omega
  obtain⟨g,o,A,K,S,pt,px,pb,pe,t,x,b,e,ct,cx,cb,ce,zx,zs,zt,zb,ze,rfl,⟨a0,a1,a2,a3,a4,a5,a6⟩,cX,cS,cT,cB,cE,hz⟩:=HP k ak;obtain⟨X,hX⟩:=Ze (⟨S.toArray⟩:Zy)
  have ae:ZH (S=[]->X=⟨#[]⟩):=fun h=>by rw[hX,h]
  have af:ZH (S≠[]->(X.toList==[])=false):=fun h=>by
   have h2:=bs_ne h;rw[<-hX]at h2;simpa using h2
  rw[<-hX]at a2 cS;clear hX;have V:=J0 HB;have e0:=(V.cell (p:=⟨g,_,none⟩) (J2 a0)).trans a0;have e1:=(V.cell (p:=⟨g,_,none⟩) (J2 a1)).trans a1;have e2:=(V.cell (p:=⟨g,_,none⟩) (J2 a2)).trans a2;have e3:=(V.cell (p:=⟨g,_,none⟩) (J2 a3)).trans a3;have e4:=(V.cell (p:=⟨g,_,none⟩) (J2 a4)).trans a4;have e5:=(V.cell (p:=⟨g,_,none⟩) (J2 a5)).trans a5;have e6:=(V.cell (p:=⟨g,_,none⟩) (J2 a6)).trans a6;obtain⟨F1,al⟩:∃F,F=refS1 room K x zx:=⟨_,rfl⟩
  obtain⟨F2,am⟩:∃F,F=zig K S t zs zt:=⟨_,rfl⟩
  obtain⟨F3,an⟩:∃F,F=refS3 K b e zb ze:=⟨_,rfl⟩
  rw[<-al,<-am,<-an]at hz;have M:=J3 al;have r:=J3 am;have Y:=J3 an;have HZ:=J3 hz;have ab:ZH (z k=false->ag=false):=fun h=>by rw[J0 ad];exact allB_no ak h
  have CX:=J3 cX;have u:=J3 cS;have J:=J3 cT;have CB:=J3 cB;have CE:=J3 cE;have HA:ZH (ZB w (wr.alloc (sBox A K X pt px pb pe t x b e ct cx cb ce))):=V.alloc V.size _;clear a0 a1 a2 a3 a4 a5 a6 cX cS cT cB cE al am an hz V HP;go_upto_region 5 with fail
  go_cut [43] (fun c wx=>∃Wy:Zw,c=.bool (!F1)/\Wy=wx/\ZH (Below (wr.alloc (sBox A K X pt px pb pe t x b e ct cx cb ce)).heap.size (wr.alloc (sBox A K X pt px pb pe t x b e ct cx cb ce)) Wy))
  case first=>
   clear ae af r Y u J CB CE HZ ab ad HK HB e0 e1 e2 e3 e4 e5 e6;by_cases c0:room=0
   ·subst c0;have j:ZH (F1=false):=by show _=_;rw[J0 M,refS1];simp
    clear M CX
    as_aux_lemma=>
     go_wp2_with fail;go_meet
     case rel=>exact⟨_,by rw[J0 j];rfl,rfl,Zr⟩
   obtain⟨aK,aL⟩:=beqf c0;by_cases U:K<1
   ·have j:ZH (F1=false):=by show _=_;rw[J0 M,refS1,Ym (show ¬1<=K by omega)];simp
    clear M CX
    as_aux_lemma=>
     go_wp2_with fail;go_meet
     case rel=>exact⟨_,by rw[J0 j];rfl,rfl,Zr⟩
   by_cases Z:7<K
   ·have j:ZH (F1=false):=by show _=_;rw[J0 M,refS1,Ym (show ¬K<=7 by omega)];simp
    clear M CX
    as_aux_lemma=>
     go_wp2_with fail;go_meet
     case rel=>exact⟨_,by rw[J0 j];rfl,rfl,Zr⟩
   by_cases c3:x=1
   rotate_left
   ·obtain⟨aM,aN⟩:=beqf (show(x:Int)≠1 by omega);have j:ZH (F1=false):=by show _=_;rw[J0 M,refS1,Ym c3];simp
    clear M CX c3
    as_aux_lemma=>
     go_wp2_with fail;go_meet
     case rel=>exact⟨_,by rw[J0 j];rfl,rfl,Zr⟩
   subst c3;have j:ZH (F1=zx):=by
    show _=_;rw[J0 M,refS1,Xi (show 1<=K by omega),Xi (show K<=7 by omega),Ym c0];simp
   obtain⟨L,ox,A',K',N',S',p1,p2,p3,n1,n2,n3,ar,au,av,rfl,⟨x0,x1,x2,x3,x4,x5,x6⟩,RX⟩:=CX rfl;have hA:=J0 HA;have y0:=(hA.cell (p:=⟨L,_,none⟩) (J2 x0)).trans x0;have y1:=(hA.cell (p:=⟨L,_,none⟩) (J2 x1)).trans x1;have y2:=(hA.cell (p:=⟨L,_,none⟩) (J2 x2)).trans x2;have y3:=(hA.cell (p:=⟨L,_,none⟩) (J2 x3)).trans x3;have y4:=(hA.cell (p:=⟨L,_,none⟩) (J2 x4)).trans x4;have y5:=(hA.cell (p:=⟨L,_,none⟩) (J2 x5)).trans x5;have y6:=(hA.cell (p:=⟨L,_,none⟩) (J2 x6)).trans x6;have CR:=J3 (RX _ hA);clear M CX RX x0 x1 x2 x3 x4 x5 x6 hA c0
   cases zx
   all_goals
    as_aux_lemma=>
     go_wp2_with (go_at_call 71;refine CR.mono ?_;clear CR;rintro y w1 ⟨rfl,s⟩);go_meet
     case rel=>exact⟨_,by rw[J0 j];rfl,rfl,s⟩
  case rest=>
   obtain⟨Wy,rfl,rfl,aa⟩:=hcut;clear CX;obtain⟨d0,d1,d2,d3,d4,d5,d6⟩:=JA aa
   cases F1
   ·have j:ZH (ag=false):=ab (by rw[J0 HZ];rfl);rw[show(!false)=true from rfl]
    as_aux_lemma=>
     go_wp2_with fail;go_ret;exact⟨by rw[J0 j];rfl,zax HA aa⟩
   rw[show(!true)=false from rfl];have hK:1<=K/\K<=7/\0<room:=by
    have h:=J0 M;unfold refS1 at h;have h2:=h.symm;simp only[Yc,Xb,Bool.not_eq_true',decide_eq_false_iff_not]at h2;omega
   obtain⟨k1,k2,hr⟩:=hK;clear M;go_upto_region 7 with fail
   go_cut [7] (fun c wx=>c=.bool (zlr K)/\Wy=wx)
   case first=>
    clear ae af r Y u J CB CE HZ ab ad HK HB e0 e1 e2 e3 e4 e5 e6;have hk:K=1∨K=2∨(K≠1/\K≠2):=by omega
    rcases hk with rfl|rfl|⟨h3,h4⟩
    ·go_wp2_with fail;go_meet
     case rel=>exact⟨rfl,rfl⟩
    ·go_wp2_with fail;go_meet
     case rel=>exact⟨rfl,rfl⟩
    ·have HN:ZH (zlr K=false):=by show _=_;simp[zlr,h3,h4]
     obtain⟨aw,ax⟩:=beqf h3;obtain⟨ay,az⟩:=beqf h4
     as_aux_lemma=>
      go_wp2_with fail;go_meet
      case rel=>exact⟨by rw[J0 HN],rfl⟩
   case rest=>
    obtain⟨rfl,rfl⟩:=hcut;obtain⟨nm,ao⟩:=Ze (zlr K)
    rw[<-ao];have G:=J3 ao;clear ao;go_upto_region 8 with fail
    go_cut [90] (fun c wx=>∃Wz:Zw,c=.bool (!F2)/\Wz=wx/\ZH (ZB Wy Wz))
    case first=>
     clear Y CB CE HZ ab ad HK e0 e1 e2 e3 e4 e5 e6 d0 d1 d4 d5 d6;obtain⟨d0,d1,d2,d3,d4,d5,d6⟩:=JA aa;have hS:S=[]∨S≠[]:=Classical.em _;rcases hS with hS|hS
     ·have I:ZH (S.isEmpty=true):=by show _=_;rw[hS];rfl
      obtain rfl:=ae hS;clear ae af hS
      cases nm
      ·by_cases U:t=0
       ·subst U;have j:ZH (F2=true):=by show _=_;rw[J0 r,zig,J0 I,<-J0 G];rfl
        clear r u J I G
        as_aux_lemma=>
         go_wp2_with fail;go_meet
         case rel=>exact⟨_,by rw[J0 j];rfl,rfl,Zr⟩
       by_cases Z:t=1
       ·subst Z;have ac:K≠1:=fun h=>by have:=J0 G;rw[h]at this;cases this
        have j:ZH (F2=false):=by show _=_;rw[J0 r,zig,Ym ac];simp
        obtain⟨aw,ax⟩:=beqf ac;clear r u J I G ac
        as_aux_lemma=>
         go_wp2_with fail;go_meet
         case rel=>exact⟨_,by rw[J0 j];rfl,rfl,Zr⟩
       have c3:(1:Int)<(t:Int):=by omega
       have j:ZH (F2=false):=by show _=_;rw[J0 r,zig,Ym (show ¬t<=1 by omega)];simp
       clear r u J I G U Z
       as_aux_lemma=>
        go_wp2_with fail;go_meet
        case rel=>exact⟨_,by rw[J0 j];rfl,rfl,Zr⟩
      ·have j:ZH (F2=false):=by show _=_;rw[J0 r,zig,J0 I,<-J0 G];rfl
       clear r u J I G
       as_aux_lemma=>
        go_wp2_with fail;go_meet
        case rel=>exact⟨_,by rw[J0 j];rfl,rfl,Zr⟩
     ·have I:ZH (S.isEmpty=false):=by
       show _=_
       cases S with
       | nil=>exact absurd rfl hS
       | cons=>rfl
      have aO:=af hS;clear ae af hS
      cases nm
      ·have j:ZH (F2=false):=by show _=_;rw[J0 r,zig,J0 I,<-J0 G];rfl
       clear r u J I G
       as_aux_lemma=>
        go_wp2_with fail;go_meet
        case rel=>exact⟨_,by rw[J0 j];rfl,rfl,Zr⟩
      ·cases zs
       ·have j:ZH (F2=false):=by show _=_;rw[J0 r,zig,<-J0 G];simp
        clear r J I G
        as_aux_lemma=>
         go_wp2_with (go_at_call 42;refine(u _).mono ?_;clear u;rintro y w1 ⟨rfl,s⟩);go_meet
         case rel=>exact⟨_,by rw[J0 j];rfl,rfl,s⟩
       by_cases U:t=0
       ·subst U;have j:ZH (F2=true):=by show _=_;rw[J0 r,zig,J0 I,<-J0 G];rfl
        clear r J I G
        as_aux_lemma=>
         go_wp2_with (go_at_call 42;refine(u _).mono ?_;clear u;rintro y w1 ⟨rfl,s⟩;clear d0 d1 d2 d3 d4 d5 d6;obtain⟨d0,d1,d2,d3,d4,d5,d6⟩:=JA (zax aa s));go_meet
         case rel=>exact⟨_,by rw[J0 j];rfl,rfl,s⟩
       by_cases Z:t=1
       ·subst Z;by_cases ac:K=1
        ·subst ac;have j:ZH (F2=zt):=by show _=_;rw[J0 r,zig,J0 I,<-J0 G];rfl
         obtain⟨L,ox,K',S',p1,p2,p3,n1,n2,n3,ar,au,av,rfl,⟨x0,x1,x2,x3,x4⟩,RX⟩:=J rfl;have aA:ZH (∀W,ZB w W->ZK5 W L ox (Zi K') (.string S') (.slice p1 n1 ar) (.slice p2 n2 au) (.slice p3 n3 av)):=fun W h=>⟨(h.cell (p:=⟨L,_,none⟩) (J2 x0)).trans x0,(h.cell (p:=⟨L,_,none⟩) (J2 x1)).trans x1,(h.cell (p:=⟨L,_,none⟩) (J2 x2)).trans x2,(h.cell (p:=⟨L,_,none⟩) (J2 x3)).trans x3,(h.cell (p:=⟨L,_,none⟩) (J2 x4)).trans x4⟩
         have aB:=J3 RX;clear r J I G RX x0 x1 x2 x3 x4
         cases zt
         all_goals
          as_aux_lemma=>
           go_wp2_with (first
            | (go_at_call 42;refine(u _).mono ?_;clear u;rintro y w1 ⟨rfl,s⟩;clear d0 d1 d2 d3 d4 d5 d6;obtain⟨d0,d1,d2,d3,d4,d5,d6⟩:=JA (zax aa s);have ap:=zax (zax HA aa) s;obtain⟨y0,y1,y2,y3,y4⟩:=aA w1 ap;have CR:=J3 (J0 aB w1 ap);clear ap aA aB)
            | (go_at_call 33;refine CR.mono ?_;clear CR;rintro y w2 ⟨rfl,aq⟩))
           go_meet
           case rel=>exact⟨_,by rw[J0 j];rfl,rfl,zax s aq⟩
        ·have j:ZH (F2=false):=by show _=_;rw[J0 r,zig,Ym ac];simp
         obtain⟨aw,ax⟩:=beqf ac;clear r J I G ac
         as_aux_lemma=>
          go_wp2_with (go_at_call 42;refine(u _).mono ?_;clear u;rintro y w1 ⟨rfl,s⟩;clear d0 d1 d2 d3 d4 d5 d6;obtain⟨d0,d1,d2,d3,d4,d5,d6⟩:=JA (zax aa s));go_meet
          case rel=>exact⟨_,by rw[J0 j];rfl,rfl,s⟩
       have c3:(1:Int)<(t:Int):=by omega
       have j:ZH (F2=false):=by show _=_;rw[J0 r,zig,Ym (show ¬t<=1 by omega)];simp
       clear r J I G U Z
       as_aux_lemma=>
        go_wp2_with (go_at_call 42;refine(u _).mono ?_;clear u;rintro y w1 ⟨rfl,s⟩;clear d0 d1 d2 d3 d4 d5 d6;obtain⟨d0,d1,d2,d3,d4,d5,d6⟩:=JA (zax aa s));go_meet
        case rel=>exact⟨_,by rw[J0 j];rfl,rfl,s⟩
    case rest=>
     obtain⟨Wz,rfl,rfl,aC⟩:=hcut;clear u J ae af r G d0 d1 d2 d3 d4 d5 d6;have ah:=J3 (zax aa aC);obtain⟨d0,d1,d2,d3,d4,d5,d6⟩:=JA ah;clear aa aC
     cases F2
     ·have j:ZH (ag=false):=ab (by rw[J0 HZ];rfl);rw[show(!false)=true from rfl]
      as_aux_lemma=>
       go_wp2_with fail;go_ret;exact⟨by rw[J0 j];rfl,zax HA ah⟩
     rw[show(!true)=false from rfl];have ai:=J3 (zax HA ah);have aD:ZH (IntKind.i64.wrap (room-1)=room-1):=wrap_pred hr h1;have C1:=J3 (J0 CB hr Wz ai);have C2:=J3 (J0 CE hr);clear CB CE;go_upto_region 10 with fail
     go_cut [131] (fun c wx=>∃Wv:Zw,c=.bool (!F3)/\Wv=wx/\ZH (ZB Wz Wv))
     case first=>
      clear HZ ab ad HK e0 e1 e2 e3 e4 e5 e6;have aG:ZH (∀w1,ZB Wz w1->ZB w w1):=fun w1 h=>zax ai h
      by_cases U:b=0∨K=4∨K=5
      rotate_left
      ·have aH:(0:Int)<(b:Int):=by omega
       obtain⟨ay,az⟩:=beqf (show K≠4 by omega);obtain⟨aP,aQ⟩:=beqf (show K≠5 by omega);have j:ZH (F3=false):=by show _=_;rw[J0 Y,refS3,Ym (show ¬b=0 by omega),Ym (show ¬K=4 by omega),Ym (show ¬K=5 by omega)];simp
       clear Y C1 C2 U
       as_aux_lemma=>
        go_wp2_with fail;go_meet
        case rel=>exact⟨_,by rw[J0 j];rfl,rfl,Zr⟩
      by_cases Z:e=0∨K=4
      rotate_left
      ·have aR:(0:Int)<(e:Int):=by omega
       obtain⟨ay,az⟩:=beqf (show K≠4 by omega);have j:ZH (F3=false):=by show _=_;rw[J0 Y,refS3,Ym (show ¬e=0 by omega),Ym (show ¬K=4 by omega)];simp
       have c5:b=0∨(0<(b:Int)/\K=5):=by omega
       clear Y C1 C2 Z U;rcases c5 with rfl|⟨aH,rfl⟩
       all_goals
        as_aux_lemma=>
         go_wp2_with fail;go_meet
         case rel=>exact⟨_,by rw[J0 j];rfl,rfl,Zr⟩
      have j:ZH (F3=(zb&&ze)):=by
       show _=_;rw[J0 Y,refS3];have q1:(decide (b=0)||decide (K=4)||decide (K=5))=true:=by rcases U with h|h|h <;> simp[h]
       have q2:(decide (e=0)||decide (K=4))=true:=by rcases Z with h|h <;> simp[h]
       rw[q1,q2];simp
      clear Y;have aI:(b=0/\e=0)∨(b=0/\0<(e:Int)/\K=4)∨(0<(b:Int)/\e=0/\K=4)∨(0<(b:Int)/\0<(e:Int)/\K=4)∨(0<(b:Int)/\e=0/\K=5):=by omega
      clear U Z;have aS:=J0 aD;clear aD hn h0 h1 hk ak hr;rcases aI with⟨rfl,rfl⟩|⟨rfl,q1,rfl⟩|⟨q1,rfl,rfl⟩|⟨q1,q2,rfl⟩|⟨q1,rfl,rfl⟩
      all_goals
       cases zb
       ·go_wp2_with (go_at_call 43;refine C1.mono ?_;clear C1;rintro y w1 ⟨rfl,s⟩);go_meet
        case rel=>exact⟨_,by rw[J0 j];rfl,rfl,s⟩
       ·all_goals
         as_aux_lemma=>
          go_wp2_with (first
           | (go_at_call 43;refine C1.mono ?_;clear C1;rintro y w1 ⟨rfl,s⟩;clear d0 d1 d2 d3 d4 d5 d6;obtain⟨d0,d1,d2,d3,d4,d5,d6⟩:=JA (zax ah s);have C3:=J3 (J0 C2 w1 (aG w1 s));clear C2)
           | (go_at_call 43;refine C3.mono ?_;clear C3;rintro y w2 ⟨rfl,aq⟩))
          go_meet
          case rel=>exact⟨_,by rw[J0 j];rfl,rfl,zax s aq⟩
     case rest=>
      obtain⟨Wv,rfl,rfl,aE⟩:=hcut;clear C1 C2 Y d0 d1 d2 d3 d4 d5 d6
      cases F3
      ·have j:ZH (ag=false):=ab (by rw[J0 HZ];rfl);rw[show(!false)=true from rfl]
       as_aux_lemma=>
        go_wp2_with fail;go_ret;exact⟨by rw[J0 j];rfl,zax ai aE⟩
      rw[show(!true)=false from rfl];have aJ:ZH (zlc (k+1) z=true):=by show _=_;rw[zkp,J0 HK,J0 HZ];rfl
      clear HZ ab ad
      as_aux_lemma=>
       go_wp2_with fail;go_roundw
       case rel=>exact⟨k+1,by go_num,by omega,aJ,zax ai aE⟩
       case measure=>simp[intOf];omega
theorem refS_is {K room:Int} {S:Bs} {t x b e:Nat} {c zs r g j zy:Bool} (s:S.isEmpty=true->zs=false) (u:t=0->zy=true) (G:t=1->zy=r) :
  (refS1 room K x c&&zig K S t zs r&&refS3 K b e g j)=(!decide (room=0)&&zet K S t x b e zs&&zy&&c&&g&&j):=by
 have I:K=1∨K=2∨K=3∨K=4∨K=5∨K=6∨K=7∨(K<1∨7<K):=by omega
 have U:t=0∨t=1∨1<t:=by omega
 unfold refS1 zig refS3 zet zlr;generalize S.isEmpty=Y at s ⊢;generalize decide (room=0)=r0;generalize J:decide (x=1)=x1;generalize L:decide (b=0)=b0;generalize M:decide (e=0)=e0;rcases U with h|h|h
 ·have:=u h;subst h this;rcases I with rfl|rfl|rfl|rfl|rfl|rfl|rfl|h
  all_goals try (simp only[Int.reduceEq,Int.reduceLE,decide_true,decide_false,if_true,if_false,Xr,or_self,or_true,true_or])
  all_goals try (clear u G J L M;revert s;cases Y <;> cases zs <;> cases r <;> cases r0 <;> cases x1 <;> cases b0 <;> cases e0 <;> cases c <;> cases g <;> cases j <;> decide)
  have q:(decide (1<=K)&&decide (K<=7))=false:=by
   rcases h with h|h
   ·rw[Ym (show ¬1<=K by omega)];rfl
   ·rw[Ym (show ¬K<=7 by omega),Xw]
  rw[Y7 (by omega),Y7 (by omega),Y7 (by omega),Y7 (by omega),Y7 (by omega),Bool.and_assoc (!r0),q];simp
 ·have:=G h;subst h this;rcases I with rfl|rfl|rfl|rfl|rfl|rfl|rfl|h
  all_goals try (simp only[Int.reduceEq,Int.reduceLE,decide_true,decide_false,if_true,if_false,or_self,or_true,true_or,Y5,Nat.reduceEqDiff])
  all_goals try (clear u G J L M;revert s;cases Y <;> cases zs <;> cases zy <;> cases r0 <;> cases x1 <;> cases b0 <;> cases e0 <;> cases c <;> cases g <;> cases j <;> decide)
  have q:(decide (1<=K)&&decide (K<=7))=false:=by
   rcases h with h|h
   ·rw[Ym (show ¬1<=K by omega)];rfl
   ·rw[Ym (show ¬K<=7 by omega),Xw]
  rw[Y7 (by omega),Y7 (by omega),Y7 (by omega),Y7 (by omega),Y7 (by omega),Bool.and_assoc (!r0),q];simp
 ·rw[Ym (show ¬t<=1 by omega),Ym (show ¬t=0 by omega)];have V:(if K=1 then false&&b0&&e0&&zs else if K=2 then false&&b0&&e0&&zs else if K=3∨K=6∨K=7 then Y&&false&&b0&&e0 else if K=4 then Y&&false else if K=5 then Y&&false&&e0 else false)=false:=by
   repeat' split
   all_goals simp
  rw[V];simp
theorem all_range {α:Type} (f:α->Bool):∀l:List α,zlc l.length (fun i=>(l[i]?.map f).getD true)=l.all f:=fun l=>by
 unfold zlc;rw[Bool.eq_iff_iff,Yn,Yn]
 constructor
 ·intro h x j;obtain⟨i,c,rfl⟩:=List.getElem_of_mem j;have:=h i (Yy.2 c);rw[Y6 c]at this;exact this
 ·intro h i c;have g:=Yy.1 c;rw[Y6 g];exact h _ (Ys g)
theorem tok_none:za3 1 []=false:=by decide +kernel
theorem rights_one {D:Nat}:∀{c:List (Ty D)},(c.length=0->Ju D 64 c=true)/\(c.length=1->Ju D 64 c=(c[0]?.map (JP D 64)).getD true)
 | []=>⟨fun _=>zjr _ _,fun h=>by simp at h⟩
 | [t]=>⟨fun h=>by simp at h,fun _=>by
  show Ju D 64 [t]=JP D 64 t
  match D,t with
  | D+1,t=>rfl⟩
 | _::_::_=>⟨fun h=>by simp at h,fun h=>by simp at h⟩
def RRightSsAt (D d m:Nat):Prop:=∀(g:List (St D d m)) (p:Zo) (c:Nat) (room:Int) (w:Zw),StRow w D d m (.slice p g.length c) g->zeh D d m g<=60000->zen D d m g->0<=room->room<=1000 ->
 ZC 43 #[.slice p g.length c,Zi room] w (.bool (za2 D d m room g))
theorem zks (D d:Nat):∀m,RRightSsAt D d m
 | 0=>fun j p c room w _ _ _ U V=>by
  match j with
  | []=>exact rst_run p 0 c room w (fun _=>true) (by omega) U V fun k hk=>absurd hk (by omega)
  | s::_=>exact nomatch s
 | m+1=>fun j p c room w hv hz hf U V=>by
  have IH:=zks D d m;have e:za2 D d (m+1) room j=zlc j.length (fun i=>(j[i]?.map (zkq D d m room)).getD true):=by rw[all_range];rfl
  rw[e];refine rst_run p j.length c room w _ hf.1 U V fun k hk=>?_
  obtain⟨L,M,Y,hp⟩:=hv;injection Y with Y _ _
  subst Y;have aa:j[k]?=some j[k]:=by simp
  obtain⟨g,o,vt,vx,vb,ve,rfl,a0,a1,a2,a3,a4,a5,a6,r1,r2,r3,r4⟩:=hp k j[k] aa;obtain⟨pt,ct,rfl⟩:=r1.slice;obtain⟨px,cx,rfl⟩:=r2.1.slice;obtain⟨pb,cb,rfl⟩:=r3.slice;obtain⟨pe,ce,rfl⟩:=r4.slice;obtain⟨f1,f2,f3⟩:=hf.2 j[k] (by simp);have ab:1+(zb4 j[k]).length+szL D (sT j[k])+zdp D d (sX j[k])+zeh D d m (sB j[k])+zeh D d m (sE j[k])<=60000:=by
   refine Yh ?_ hz;rw[zeh];exact zbu (YF.2 ⟨j[k],by simp,rfl⟩)
  refine⟨g,o,_,_,zb4 j[k],pt,px,pb,pe,(sT j[k]).length,(sX j[k]).length,(sB j[k]).length,(sE j[k]).length,ct,cx,cb,ce,((sX j[k])[0]?.map (za9 D d 64)).getD true,za3 1 (zb4 j[k]),((sT j[k])[0]?.map (JP D 64)).getD true,za2 D d m (room-1) (sB j[k]),za2 D d m (room-1) (sE j[k]),rfl,⟨a0,a1,a2,a3,a4,a5,a6⟩,fun hx=>?_,fun W=>zj3 _ W (by omega),fun ht=>?_,fun hr W r=>IH _ pb cb _ W (StRow.below r m r3) (by omega) f2 (by omega) (by omega),fun hr W r=>IH _ pe ce _ W (StRow.below r m r4) (by omega) f3 (by omega) (by omega),?_⟩
  ·obtain⟨u,⟨Z,ox,A',K',N',S',L,p2,p3,n1,M,n2,c2,n3,c3,rfl,rfl,t,x,G,I,J,x5,x6⟩,hu⟩:=r2.1.at 0 (by omega);simp only[Xt,Xs]at t x G I J x5 x6;have hm:=zlt (Ys (show 0<(sX j[k]).length by omega));have e0:((sX j[k])[0]?.map (za9 D d 64)).getD true=za9 D d 64 ((sX j[k])[0]'(by omega)):=by rw[Y6 (by omega)];rfl
   rw[e0];exact⟨Z,ox,A',K',N',S',L,p2,p3,n1,n2,n3,M,c2,c3,rfl,⟨t,x,G,I,J,x5,x6⟩,fun W r=>zm7 D d _ _ 64 W (ExValD.below r hu) (by omega) (ExFits.at f1.2.2.2.1 _ (Ys _)) (by decide)⟩
  ·obtain⟨u,⟨Z,ox,K',S',L,p2,p3,n1,M,n2,c2,n3,c3,rfl,rfl,t,x,G,I,J⟩,hu⟩:=r1.at 0 (by omega);simp only[Xt,Xs]at t x G I J;have hm:=zdk (Ys (show 0<(sT j[k]).length by omega));have e0:((sT j[k])[0]?.map (JP D 64)).getD true=JP D 64 ((sT j[k])[0]'(by omega)):=by rw[Y6 (by omega)];rfl
   rw[e0];exact⟨Z,ox,K',S',L,p2,p3,n1,n2,n3,M,c2,c3,rfl,⟨t,x,G,I,J⟩,fun W r=>zdx D _ _ 64 W (TyValD.below r hu) (by omega) (by decide)⟩
  ·rw[aa];show zkq D d m room j[k]=_;rw[refS_is (zy:=Ju D 64 (sT j[k])) (fun h=>by rw[List.isEmpty_iff.1 h];exact tok_none) rights_one.1 rights_one.2]
   rfl
end Go.Proofs.YtdcbglnhhbmpgaaGreatDoor
