import Derived.Test.YtdcbglnhhbmpgaaGreatDoorQRefD
import Derived.Test.YtdcbglnhhbmpgaaGreatDoorQXOwn
set_option maxHeartbeats 1000000
set_option maxRecDepth 100000
namespace Go.Proofs.YtdcbglnhhbmpgaaGreatDoor
open Go Go.RowKit Lx
def zk7 (K:Int):Int×Int×Int×Int:=
 if K=2 then(0,0,0,115)
 else if K=4 then(0,0,0,110)
 else if K=6 then(0,0,1,45)
 else if K=7∨K=8 then(-1,-1,0,84)
 else if K=9 then(1,0,0,110)
 else if K=10 then(-2,0,0,110)
 else if K=11 then(-2,0,0,45)
 else if K=12 then(1,0,1,45)
 else if K=13∨K=14 then(1,0,0,45)
 else if K=1∨K=3∨K=5 then(0,0,0,45)
 else(2,0,0,45)
theorem kinds {K:Int} (c:1<=K) (g:K<=21):K=1∨K=2∨K=3∨K=4∨K=5∨K=6∨K=7∨K=8∨K=9∨K=10∨K=11∨K=12∨K=13∨K=14∨K=15∨K=16∨K=17∨K=18∨K=19∨K=20∨K=21:=by omega
theorem rshape_of (K p n t h:Int) (w:Zw) (c:1<=K) (g:K<=21) (j:zk7 K=(p,n,t,h)):Zg 113 #[Zi K] w fun e w'=>e=.returned (.tuple #[Zi p,Zi n,Zi t,.int .u8 h])/\w=w':=by
 rcases kinds c g with h|h|h|h|h|h|h|h|h|h|h|h|h|h|h|h|h|h|h|h|h
 all_goals
  subst h
  cases j
  go_enter Tryz.func113,Tryz.ntmps113;go_wp2;exact Yi (by simp[results,Tryz.results113,go_sem]) rfl ⟨rfl,rfl⟩
theorem rfirst_any (K:Int) (w:Zw) (c:1<=K) (g:K<=21):Zg 115 #[Zi K] w fun e w'=>e=.returned (.bool (zdn K))/\w=w':=by
 rcases kinds c g with h|h|h|h|h|h|h|h|h|h|h|h|h|h|h|h|h|h|h|h|h
 all_goals
  subst h;go_enter Tryz.func115,Tryz.ntmps115;go_wp2;go_ret;exact⟨rfl,rfl⟩
def zfw (c:Int) (s:Bs):Bool:=if c=110 then za3 1 s else if c=84 then za3 2 s else if c=115 then za3 5 s else s.isEmpty
theorem isTok5 (s:Bs):za3 5 s=JS s:=by rw[za3,sound,Y7 (by simp),Y7 (by simp),Ye rfl];simp
theorem rsaid_s (s:Zy) (w:Zw) (L:s.size<=1000000):Zg 114 #[.string s,.int .u8 115] w fun e w'=>e=.returned (.bool (JS s.data.toList))/\w=w':=by
 obtain⟨r,t⟩:=Ze (JS s.data.toList)
 rw[<-t];have u:=J3 t;clear t;go_enter Tryz.func114,Tryz.ntmps114;go_wp2
 go_loop [5] (fun i=>∃k:Nat,k<=s.size/\i=Zi k/\ZH (JS s.data.toList=JS (s.data.toList.drop k))) (fun i=>s.size-(intOf i).toNat)
 case atStart=>exact⟨0,by omega,rfl,rfl⟩
 case round=>
  obtain⟨k,M,rfl,g⟩:=hrel;by_cases x:k<s.size
  ·have hd:=drop_cons s k x;have e:=J0 g;rw[hd,zbc]at e;have U:(k:Int)<(s.size:Int):=by omega
   have j:sayB s[k]=((s[k].toNat:Int)==10||zbf (s[k].toNat:Int)):=by
    rw[sayB]
    congr 1
    rw[Bool.eq_iff_iff,Xn,Xn]
    constructor
    ·intro h;rw[h];rfl
    ·intro h;exact zbm (n:=10) (by decide) h
   by_cases c:((s[k].toNat:Int)==10||zbf (s[k].toNat:Int))=true
   ·have G:ZH (JS s.data.toList=JS (s.data.toList.drop (k+1))):=by
     show _=_;rw[e,j,c];rfl
    clear e hd g j;go_wp2_with (go_at_call 100;refine(zhu _ _).mono ?_;rintro e w' ⟨rfl,rfl⟩;rw[c])
    go_round
    case rel=>exact⟨k+1,by omega,by go_num,G⟩
    case measure=>simp[intOf];omega
   ·have c:=(Yb _).mp c;have I:ZH (r=false):=by
     show _=_;rw[J0 u,e,j,c];simp
    clear e hd g j;go_wp2_with (go_at_call 100;refine(zhu _ _).mono ?_;rintro e w' ⟨rfl,rfl⟩;rw[c]);go_ret;exact⟨by rw[J0 I];rfl,rfl⟩
  ·have J:ZH (r=true):=by
    have e:=J0 g;rw[Yg (i:=k) (by simp;omega)]at e;exact u.trans e
   clear g;go_wp2;go_ret;exact⟨by rw[J0 J];rfl,rfl⟩
theorem rsaid2_any (s:Bs) (g:Int) (w:Zw) (G:s.length<=60000) (J:g=110∨g=84∨g=115∨g=45):ZC 114 #[.string ⟨s.toArray⟩,.int .u8 g] w (.bool (zfw g s)):=by
 rcases J with h|h|h|h
 ·subst h;have c:=J3 (zj3 s w G);have e:zfw 110 s=za3 1 s:=rfl;rw[e];clear e;generalize za3 1 s=r at c ⊢;go_enter Tryz.func114,Tryz.ntmps114;go_wp2_with (go_at_call 42;refine c.mono ?_;clear c;rintro x w1 ⟨rfl,t⟩);go_ret;exact⟨rfl,t⟩
 ·subst h;have c:=J3 (zi6 s w G);have e:zfw 84 s=za3 2 s:=rfl;rw[e];clear e;generalize za3 2 s=r at c ⊢;go_enter Tryz.func114,Tryz.ntmps114;go_wp2_with (go_at_call 32;refine c.mono ?_;clear c;rintro x w1 ⟨rfl,t⟩);go_ret;exact⟨rfl,t⟩
 ·subst h;have e:zfw 115 s=JS (⟨s.toArray⟩:Zy).data.toList:=by
   show za3 5 s=_;rw[isTok5]
  rw[e];exact(rsaid_s ⟨s.toArray⟩ w (by show s.toArray.size<=_;simp;omega)).mono fun e w' ⟨L,M⟩=>⟨L,by rw[<-M];exact Zr⟩
 ·subst h;have e:zfw 45 s=s.isEmpty:=rfl;rw[e];clear e;by_cases j:s=[]
  ·subst j;go_enter Tryz.func114,Tryz.ntmps114;go_wp2;go_ret;exact⟨rfl,Zr⟩
  ·have I:=bs_ne j;have he:ZH (s.isEmpty=false):=by
    show _=_
    cases s with
    | nil=>exact absurd rfl j
    | cons=>rfl
   have U:((⟨s.toArray⟩:Zy).toList==[])=false:=by simpa using I
   obtain⟨X,u⟩:=Ze (⟨s.toArray⟩:Zy)
   rw[<-u]at U;rw[<-u,J0 he];clear u j I he;go_enter Tryz.func114,Tryz.ntmps114;go_wp2;go_ret;exact⟨rfl,Zr⟩
def zb1 (p n t h:Int) (S:Bs) (nt np:Nat) (ns:List Bs):Bool:=
 (if 0<=p then decide ((np:Int)=p)else if p = -2 then decide (1<=np)else decide (np=ns.length))&&(if 0<=n then decide (ns.length=0)else true)&&decide ((nt:Int)=t)&&zfw h S&&zaj ns
def zj2 (K N:Int):Bool:=decide (N=0)||((decide (K=1)||decide (K=3))&&decide (0<=N)&&(!decide (K=3)||decide (N<=1)))
theorem names_nil (ns:List Bs) (h:ns.length=0):zaj ns=true:=by
 obtain rfl:=YB h
 rfl
theorem shaped_ref {D d:Nat} {A K N:Int} {S:Bs} {g:List (Ty D)} {ns:List Bs} {c:List (Ex D d)} {p n t h:Int} (M:1<=K) (U:K<=21) (V:zk7 K=(p,n,t,h)) (b1:N<=9223372036854775807) (Y:c.length<=1000000) :
  zb0 D d (A,K,N,S,g,ns,c)=(zb1 p n t h S g.length c.length ns&&zj2 K N):=by
 have u:=names_nil ns;generalize x:zaj ns=nb at u;generalize J:c.length=q at Y;generalize G:ns.length=l at u;generalize L:g.length=m;generalize I:zfw h S=sb;have key:∀(j r types:Int) (named:Bool) (least s:Int),zb8 K=some (j,r,types,named,least,s)->zji j S=sb->zb0 D d (A,K,N,S,g,ns,c)=(decide (0<=N)&&decide (N<=r)&&decide ((m:Int)=types)&&decide (least<=(q:Int))&&decide ((q:Int)<=s)&&sb&&(if named=true then decide (l=q)&&nb else decide (l=0))):=by
  intro j r types named least s e Z;have e3:zb0 D d (A,K,N,S,g,ns,c)=(match zb8 K with|none=>false|some (j,r,types,named,least,s)=>decide (0<=N)&&decide (N<=r)&&decide ((g.length:Int)=types)&&decide (least<=(c.length:Int))&&decide ((c.length:Int)<=s)&&zji j S&&zd1 named ns c.length):=rfl;rw[e3,e];dsimp only;rw[Z,J,L];unfold zd1;rw[x,G]
 unfold zb1;rw[x,G,I];rcases kinds M U with e|e|e|e|e|e|e|e|e|e|e|e|e|e|e|e|e|e|e|e|e
 all_goals
  subst e
  cases V
  rw[key _ _ _ _ _ _ rfl (by rw[<-I];rfl)];clear key I x G J L;unfold zj2;rw[Bool.eq_iff_iff]
  cases sb <;> cases nb <;> simp at u ⊢ <;> try omega
def FitX (D:Nat):(d:Nat)->Ex D d->Prop
 | 0,_=>True
 | d+1,x=>zh7 D d x/\ExFits D d (xPs x)
theorem ExFits.at:∀{D d:Nat} {xs:List (Ex D d)},ExFits D d xs->∀x∈xs,FitX D d x
 | _,0,_,_,_,_=>trivial
 | _,_+1,_,h,x,c=>h.2 x c
theorem shape_class {K p n t h:Int} (c:1<=K) (g:K<=21) (j:zk7 K=(p,n,t,h)):((0<=p/\n=0)∨(p = -2/\n=0)∨(p = -1/\n = -1))/\(h=110∨h=84∨h=115∨h=45):=by
 rcases kinds c g with e|e|e|e|e|e|e|e|e|e|e|e|e|e|e|e|e|e|e|e|e
 all_goals
  subst e
  cases j
  decide
theorem shape_none {D d:Nat} {A K N:Int} {S:Bs} {g:List (Ty D)} {ns:List Bs} {c:List (Ex D d)} (h:K<1∨21<K):zb0 D d (A,K,N,S,g,ns,c)=false:=by
 have e:zb8 K=none:=by
  unfold zb8
  repeat rw[Y7 (by omega)]
 have j:zb0 D d (A,K,N,S,g,ns,c)=(match zb8 K with|none=>false|some (r,s,types,named,least,t)=>decide (0<=N)&&decide (N<=s)&&decide ((g.length:Int)=types)&&decide (least<=(c.length:Int))&&decide ((c.length:Int)<=t)&&zji r S&&zd1 named ns c.length):=rfl;rw[j,e]
theorem beqf {a b:Int} (h:a≠b):(a==b)=false/\(a != b)=true:=⟨Y3.2 h,by rw[bne,Y3.2 h];rfl⟩
def zl8 (D d:Nat):Prop:=∀(x:Ex D d) (v:Value) (room:Nat) (w:Zw),ExValD w D d v x->szX D d x<=60000->FitX D d x->room<=1000 ->
 ZC 71 #[v,Zi (room:Int)] w (.bool (za9 D d room x))
theorem rrightx_step (D d:Nat) (aX:zl8 D d):zl8 D (d+1):=fun x v room w bN hz aN bO=>by
 obtain⟨pt,pn,pp,ct,cn,cp,rfl,aY,aZ,a1⟩:=bN;obtain⟨A,K,N,S,I,ns,xs⟩:=x;have bg:1+S.length+ns.length+zgm ns+szL D I+zdp D d xs<=60000:=hz;have a6:=aN.2;have J:N<=9223372036854775807:=aN.1.2.2.2.2.2.2.2;dsimp only[xAt,zfi,xN,xS,xT,xNs,xPs]at *;have b4:=Yh (zbh _ I) (zc3 _ I);have b5:=zmt xs;obtain⟨ad,bh⟩:=Ze (za9 D (d+1) room (A,K,N,S,I,ns,xs))
 rw[<-bh];have aI:ad=(!decide ((room:Int)=0)&&zb0 D d (A,K,N,S,I,ns,xs)&&Ju D 64 I&&zlc xs.length fun i=>(xs[i]?.map (za9 D d ((room:Int)-if i=0/\zdn K=true then 0 else 1))).getD true):=bh;clear bh;obtain⟨X,aO⟩:=Ze (⟨S.toArray⟩:Zy)
 rw[<-aO];have ap:ZH (ZB w (w.alloc (zad A K N X pt pn pp I.length ns.length xs.length ct cn cp))):=Za _ _;by_cases bi:room=0
 ·subst bi;have V:ZH (ad=false):=by show _=_;rw[aI];rfl
  clear aI aO aY aZ a1 aX a6 aN hz bg;go_enter Tryz.func71,Tryz.ntmps71;go_wp2;go_ret;exact⟨by rw[J0 V];rfl,ap⟩
 obtain⟨b6,b7⟩:=beqf (show(room:Int)≠0 by omega);by_cases bC:K<1∨21<K
 ·have V:ZH (ad=false):=by show _=_;rw[aI,shape_none bC,Xw];rfl
  clear aI aO aY aZ a1 aX a6 aN hz bg bi;have bP:K<1∨(¬K<1/\21<K):=by omega
  rcases bP with az|⟨az,b8⟩
  all_goals
   go_enter Tryz.func71,Tryz.ntmps71;go_wp2;go_ret;exact⟨by rw[J0 V];rfl,ap⟩
 have a7:1<=K:=by omega
 have a8:K<=21:=by omega
 obtain⟨p,n,t,h,aJ⟩:∃p n t h,zk7 K=(p,n,t,h):=⟨_,_,_,_,rfl⟩
 obtain⟨bD,bE⟩:=shape_class a7 a8 aJ;obtain⟨F,a9⟩:=Ze (zb1 p n t h S I.length xs.length ns)
 obtain⟨G,bj⟩:=Ze (zj2 K N)
 obtain⟨a',bk⟩:∃b,b=Ju D 64 I:=⟨_,rfl⟩
 obtain⟨bQ,bl⟩:∃b,b=zlc xs.length fun i=>(xs[i]?.map (za9 D d ((room:Int)-if i=0/\zdn K=true then 0 else 1))).getD true:=⟨_,rfl⟩
 have ac:ZH (ad=(F&&G&&a'&&bQ)):=by
  show _=_;rw[aI,shaped_ref a7 a8 aJ J (by omega),<-a9,<-bj,<-bk,<-bl,show(!decide ((room:Int)=0))=true by simp;omega,XD]
 have bF:=J3 (rshape_of K p n t h (w.alloc (zad A K N X pt pn pp I.length ns.length xs.length ct cn cp)) a7 a8 aJ);have aA:ZH (∀W,ZC 114 #[.string X,.int .u8 h] W (.bool (zfw h S))):=fun W=>by
  rw[aO];exact rsaid2_any S h W (by omega) bE
 have aB:ZH (∀W,ZB w W->ZC 44 #[.slice pn ns.length cn] W (.bool (zaj ns))):=fun W bR=>zmw _ ns W (aZ.below bR) (by omega) fun s aJ=>by have:=sum_mem aJ;omega
 have aq:=J3 aY;have ar:=J3 a1;have au:=J3 a6;have av:=J3 aX;have aw:=J3 bk;have aj:=J3 bl;have aa:=J3 bj;have b9:1<=room:=by omega
 have b':szL D I<=60000:=by omega
 have ca:zdp D d xs<=60000:=by omega
 clear aI aO aY aZ a1 aX a6 aN hz bg bi bC bk bl bj aJ;go_enter Tryz.func71,Tryz.ntmps71;go_upto_region 4 with(go_at_call 113;refine bF.mono ?_;clear bF;rintro x w1 ⟨rfl,rfl⟩)
 go_cut [93] (fun c wx=>∃ba:Zw,c=.bool (!F)/\ba=wx/\ZH (Below (w.alloc (zad A K N X pt pn pp I.length ns.length xs.length ct cn cp)).heap.size (w.alloc (zad A K N X pt pn pp I.length ns.length xs.length ct cn cp)) ba))
 case first=>
  clear aq ar au av aw aj aa ac;have L:=J3 a9;clear a9;rcases bD with⟨hp,aP⟩|⟨hp,aP⟩|⟨hp,aP⟩
  ·subst aP;by_cases U:(xs.length:Int)=p
   ·have bS:p=(xs.length:Int):=U.symm;clear U;subst bS;by_cases Y:ns.length=0
    ·have bm:((ns.length:Int)==0)=true:=by rw[Y];rfl
     have bn:((ns.length:Int) != 0)=false:=by rw[Y];rfl
     have aQ:=J3 Y;clear Y;by_cases c3:(I.length:Int)=t
     ·have aR:=J3 (rfl:zfw h S=zfw h S);obtain⟨ax,ae⟩:=Ze (zfw h S)
      have Z:=J3 (J0 aA (w.alloc (zad A K N X pt pn pp I.length ns.length xs.length ct cn cp)));rw[<-ae]at Z;obtain⟨nb,af⟩:=Ze (zaj ns)
      rw[<-af]at aB;have j:ZH (F=(ax&&nb)):=by
       show _=_;rw[J0 L,zb1,<-ae,<-af];simp[c3,J0 aQ]
      have aS:t=(I.length:Int):=c3.symm;clear c3 ae af aR L aA;subst aS
      cases ax
      ·go_wp2_with (go_at_call 114;refine Z.mono ?_;clear Z;rintro x w1 ⟨rfl,J⟩);go_meet
       case rel=>exact⟨_,by rw[J0 j];rfl,rfl,J⟩
      ·go_wp2_with (first
        | (go_at_call 114;refine Z.mono ?_;clear Z;rintro x w1 ⟨rfl,J⟩;obtain⟨d0,d1,d2,d3,d4,d5,d6⟩:=Jx J;have ay:=J3 (J0 aB w1 (Zn ap J)))
        | (go_at_call 44;refine ay.mono ?_;clear ay;rintro x bG ⟨rfl,aT⟩))
       go_meet
       case rel=>exact⟨_,by rw[J0 j];rfl,rfl,Zn J aT⟩
     ·obtain⟨bH,bI⟩:=beqf c3;have j:ZH (F=false):=by
       show _=_;rw[J0 L,zb1];simp[c3,J0 aQ]
      clear c3 L;go_wp2_with fail;go_meet
      case rel=>exact⟨_,by rw[J0 j];rfl,rfl,Zr⟩
    ·obtain⟨bm,bn⟩:=beqf (show(ns.length:Int)≠0 by omega);have j:ZH (F=false):=by
      show _=_;rw[J0 L,zb1];simp[Y]
     clear Y L;go_wp2_with fail;go_meet
     case rel=>exact⟨_,by rw[J0 j];rfl,rfl,Zr⟩
   ·obtain⟨aU,bJ⟩:=beqf U;have j:ZH (F=false):=by
     show _=_;rw[J0 L,zb1];simp[U,hp]
    clear U L;go_wp2_with fail;go_meet
    case rel=>exact⟨_,by rw[J0 j];rfl,rfl,Zr⟩
  ·subst hp aP;by_cases U:1<=xs.length
   ·have aU:¬(xs.length:Int)<1:=by omega
    have aK:=J3 U;clear U;by_cases Y:ns.length=0
    ·have bm:((ns.length:Int)==0)=true:=by rw[Y];rfl
     have bn:((ns.length:Int) != 0)=false:=by rw[Y];rfl
     have aQ:=J3 Y;clear Y;by_cases c3:(I.length:Int)=t
     ·have aR:=J3 (rfl:zfw h S=zfw h S);obtain⟨ax,ae⟩:=Ze (zfw h S)
      have Z:=J3 (J0 aA (w.alloc (zad A K N X pt pn pp I.length ns.length xs.length ct cn cp)));rw[<-ae]at Z;obtain⟨nb,af⟩:=Ze (zaj ns)
      rw[<-af]at aB;have j:ZH (F=(ax&&nb)):=by
       show _=_;rw[J0 L,zb1,<-ae,<-af];simp[c3,J0 aQ,J0 aK]
      have aS:t=(I.length:Int):=c3.symm;clear c3 ae af aR L aA;subst aS
      cases ax
      ·go_wp2_with (go_at_call 114;refine Z.mono ?_;clear Z;rintro x w1 ⟨rfl,J⟩);go_meet
       case rel=>exact⟨_,by rw[J0 j];rfl,rfl,J⟩
      ·go_wp2_with (first
        | (go_at_call 114;refine Z.mono ?_;clear Z;rintro x w1 ⟨rfl,J⟩;obtain⟨d0,d1,d2,d3,d4,d5,d6⟩:=Jx J;have ay:=J3 (J0 aB w1 (Zn ap J)))
        | (go_at_call 44;refine ay.mono ?_;clear ay;rintro x bG ⟨rfl,aT⟩))
       go_meet
       case rel=>exact⟨_,by rw[J0 j];rfl,rfl,Zn J aT⟩
     ·obtain⟨bH,bI⟩:=beqf c3;have j:ZH (F=false):=by
       show _=_;rw[J0 L,zb1];simp[c3,J0 aQ,J0 aK]
      clear c3 L;go_wp2_with fail;go_meet
      case rel=>exact⟨_,by rw[J0 j];rfl,rfl,Zr⟩
    ·obtain⟨bm,bn⟩:=beqf (show(ns.length:Int)≠0 by omega);have j:ZH (F=false):=by
      show _=_;rw[J0 L,zb1];simp[Y,J0 aK]
     clear Y L;go_wp2_with fail;go_meet
     case rel=>exact⟨_,by rw[J0 j];rfl,rfl,Zr⟩
   ·have aU:(xs.length:Int)<1:=by omega
    have j:ZH (F=false):=by
     show _=_;rw[J0 L,zb1];simp[show xs.length=0 by omega]
    clear U L;go_wp2_with fail;go_meet
    case rel=>exact⟨_,by rw[J0 j];rfl,rfl,Zr⟩
  ·subst hp aP;by_cases U:xs.length=ns.length
   ·have aU:((xs.length:Int)==(ns.length:Int))=true:=by rw[U];exact beq_self_eq_true _
    have bJ:((xs.length:Int) != (ns.length:Int))=false:=by rw[bne,aU];rfl
    have aK:=J3 U;clear U;by_cases c3:(I.length:Int)=t
    ·have aR:=J3 (rfl:zfw h S=zfw h S);obtain⟨ax,ae⟩:=Ze (zfw h S)
     have Z:=J3 (J0 aA (w.alloc (zad A K N X pt pn pp I.length ns.length xs.length ct cn cp)));rw[<-ae]at Z;obtain⟨nb,af⟩:=Ze (zaj ns)
     rw[<-af]at aB;have j:ZH (F=(ax&&nb)):=by
      show _=_;rw[J0 L,zb1,<-ae,<-af];simp[c3,J0 aK]
     have aS:t=(I.length:Int):=c3.symm;clear c3 ae af aR L aA;subst aS
     cases ax
     ·go_wp2_with (go_at_call 114;refine Z.mono ?_;clear Z;rintro x w1 ⟨rfl,J⟩);go_meet
      case rel=>exact⟨_,by rw[J0 j];rfl,rfl,J⟩
     ·go_wp2_with (first
       | (go_at_call 114;refine Z.mono ?_;clear Z;rintro x w1 ⟨rfl,J⟩;obtain⟨d0,d1,d2,d3,d4,d5,d6⟩:=Jx J;have ay:=J3 (J0 aB w1 (Zn ap J)))
       | (go_at_call 44;refine ay.mono ?_;clear ay;rintro x bG ⟨rfl,aT⟩))
      go_meet
      case rel=>exact⟨_,by rw[J0 j];rfl,rfl,Zn J aT⟩
    ·obtain⟨bH,bI⟩:=beqf c3;have j:ZH (F=false):=by
      show _=_;rw[J0 L,zb1];simp[c3,J0 aK]
     clear c3 L;go_wp2_with fail;go_meet
     case rel=>exact⟨_,by rw[J0 j];rfl,rfl,Zr⟩
   ·obtain⟨aU,bJ⟩:=beqf (show(xs.length:Int)≠(ns.length:Int) by omega);have j:ZH (F=false):=by
     show _=_;rw[J0 L,zb1];simp[U]
    clear U L;go_wp2_with fail;go_meet
    case rel=>exact⟨_,by rw[J0 j];rfl,rfl,Zr⟩
 case rest=>
  obtain⟨ba,rfl,rfl,bb⟩:=hcut;clear aA aB a9 bD bE;have bo:=J3 (Zn ap bb);obtain⟨d0,d1,d2,d3,d4,d5,d6⟩:=Jx bb
  cases F
  ·have V:ZH (ad=false):=by show _=_;rw[J0 ac];rfl
   clear ac aq ar au av aw aj aa;go_wp2_with fail;go_ret;exact⟨by rw[J0 V];rfl,bo⟩
  rw[show(!true)=false from rfl];go_upto_region 6 with fail
  go_cut [121] (fun c wx=>c=.bool (!G)/\ba=wx)
  case first=>
   clear aq ar au av aw aj ac;by_cases n0:N=0
   ·subst n0;have j:ZH (G=true):=by show _=_;rw[J0 aa];rfl
    go_wp2_with fail;go_meet
    case rel=>exact⟨by rw[J0 j];rfl,rfl⟩
   obtain⟨cb,cc⟩:=beqf n0;by_cases bp:K=1
   ·subst bp;by_cases aC:N<0
    ·have j:ZH (G=false):=by show _=_;rw[J0 aa,zj2];simp;omega
     clear aa;go_wp2_with fail;go_meet
     case rel=>exact⟨by rw[J0 j];rfl,rfl⟩
    ·have j:ZH (G=true):=by show _=_;rw[J0 aa,zj2];simp;omega
     clear aa;go_wp2_with fail;go_meet
     case rel=>exact⟨by rw[J0 j];rfl,rfl⟩
   obtain⟨cd,ce⟩:=beqf bp;by_cases aD:K=3
   ·subst aD;have bq:N<0∨(¬N<0/\1<N)∨(¬N<0/\¬1<N):=by omega
    rcases bq with aC|⟨aC,aV⟩|⟨aC,aV⟩
    ·have j:ZH (G=false):=by show _=_;rw[J0 aa,zj2];simp;omega
     clear aa;go_wp2_with fail;go_meet
     case rel=>exact⟨by rw[J0 j];rfl,rfl⟩
    ·have j:ZH (G=false):=by show _=_;rw[J0 aa,zj2];simp;omega
     clear aa;go_wp2_with fail;go_meet
     case rel=>exact⟨by rw[J0 j];rfl,rfl⟩
    ·have j:ZH (G=true):=by show _=_;rw[J0 aa,zj2];simp;omega
     clear aa;go_wp2_with fail;go_meet
     case rel=>exact⟨by rw[J0 j];rfl,rfl⟩
   obtain⟨cf,cg⟩:=beqf aD;have j:ZH (G=false):=by show _=_;rw[J0 aa,zj2];simp[n0,bp,aD]
   clear aa;go_wp2_with fail;go_meet
   case rel=>exact⟨by rw[J0 j];rfl,rfl⟩
  case rest=>
   obtain⟨rfl,rfl⟩:=hcut;clear aa
   cases G
   ·have V:ZH (ad=false):=by show _=_;rw[J0 ac];rfl
    clear ac aq ar au av aw aj;go_wp2_with fail;go_ret;exact⟨by rw[J0 V];rfl,bo⟩
   rw[show(!true)=false from rfl];obtain⟨aL,an⟩:=Ze (zdn K)
   have aE:ZH (∀W,Zg 115 #[Zi K] W fun e w'=>e=.returned (.bool aL)/\W=w'):=fun W=>by rw[an];exact rfirst_any K W a7 a8
   obtain⟨f,br⟩:=Ze (fun i=>(xs[i]?.map (za9 D d ((room:Int)-if i=0/\zdn K=true then 0 else 1))).getD true:Nat->Bool)
   have bc:ZH (∀k (az:k<xs.length),f k=za9 D d ((room:Int)-if k=0/\aL=true then 0 else 1) xs[k]):=fun k az=>by
    rw[br,an];show(xs[k]?.map _).getD true=_;rw[Y6 az];rfl
   rw[<-br]at aj;clear br an d0 d1 d2 d3 d4 d5 d6;go_wp2_with fail
   go_loopw [9] (fun i wr=>∃k:Nat,i=Zi k/\k<=I.length/\ZH (Below (w.alloc (zad A K N X pt pn pp I.length ns.length xs.length ct cn cp)).heap.size (w.alloc (zad A K N X pt pn pp I.length ns.length xs.length ct cn cp)) wr)/\ZH (a'=Ju D 64 (I.drop k))) (fun i _=>I.length-(intOf i).toNat)
   case atStart=>exact⟨0,rfl,by omega,bb,aw⟩
   case round=>
    clear bb bo;obtain⟨k,rfl,az,ag,ah⟩:=hrel;obtain⟨d0,d1,d2,d3,d4,d5,d6⟩:=Jx ag;have M:=J3 (Zn ap ag);by_cases ak:k<I.length
    ·have bT:(k:Int)<(I.length:Int):=by omega
     obtain⟨u,⟨g,o,bt,S',bu,bv,aD,aC,U,aV,Y,bw,c3,rfl,rfl,a0,aF,a2,a3,a4⟩,hu⟩:=aq.at k ak;have bU:=(M.cell (p:=⟨g,_,none⟩) (J2 a0)).trans a0;have bV:=(M.cell (p:=⟨g,_,none⟩) (J2 aF)).trans aF;have bW:=(M.cell (p:=⟨g,_,none⟩) (J2 a2)).trans a2;have bX:=(M.cell (p:=⟨g,_,none⟩) (J2 a3)).trans a3;have bY:=(M.cell (p:=⟨g,_,none⟩) (J2 a4)).trans a4;have bz:=zdk (Ys ak);obtain⟨r,aG⟩:=Ze (JP D 64 I[k])
     have be:ZH (ZC 33 #[.agg #[Zi bt,.string S',.slice bu aC U,.slice bv aV Y,.slice aD bw c3],Zi 64] wr (.bool r)):=by rw[aG];exact zdx D I[k] _ 64 wr (TyValD.below M hu) (by omega) (by omega)
     have aW:=J3 (rights_at (room:=64) ak);rw[<-aG]at aW;clear aG bz a0 aF a2 a3 a4 hu ar au av aj aE bc
     cases r
     ·have V:ZH (ad=false):=by show _=_;rw[J0 ac,J0 ah,J0 aW,Bool.false_and,Xw];rfl
      clear ac ah aW aw aq;go_wp2_with (go_at_call 33;refine be.mono ?_;clear be;rintro x w1 ⟨rfl,J⟩);go_ret;exact⟨by rw[J0 V];rfl,bon' M J⟩
     ·have aH:ZH (a'=Ju D 64 (I.drop (k+1))):=by show _=_;rw[J0 ah,J0 aW,XD]
      clear ac ah aW aw aq;go_wp2_with (go_at_call 33;refine be.mono ?_;clear be;rintro x w1 ⟨rfl,J⟩);go_roundw
      case rel=>exact⟨k+1,by go_num,by omega,bon' ag J,aH⟩
      case measure=>simp[intOf];omega
    ·obtain rfl:k=I.length:=by omega
     have bK:ZH (a'=true):=by show _=_;rw[J0 ah,List.drop_length,zjr]
     have bT:¬(I.length:Int)<(I.length:Int):=by omega
     clear ah aw az ak aq;go_wp2_with fail
     go_loopw [10] (fun i wr=>∃k:Nat,i=Zi k/\k<=xs.length/\ZH (Below (w.alloc (zad A K N X pt pn pp I.length ns.length xs.length ct cn cp)).heap.size (w.alloc (zad A K N X pt pn pp I.length ns.length xs.length ct cn cp)) wr)/\ZH (zlc k f=true)) (fun i _=>xs.length-(intOf i).toNat)
     case atStart=>exact⟨0,rfl,by omega,ag,(by show _=_;rfl)⟩
     case round=>
      clear ag M d0 d1 d2 d3 d4 d5 d6;obtain⟨k,rfl,az,ag,ah⟩:=hrel;obtain⟨d0,d1,d2,d3,d4,d5,d6⟩:=Jx ag;have M:=J3 (Zn ap ag);by_cases ak:k<xs.length
      ·have bZ:(k:Int)<(xs.length:Int):=by omega
       obtain⟨u,⟨g,o,b1,bt,b2,S',bu,bv,aD,aC,U,aV,Y,bw,c3,rfl,rfl,a0,aF,a2,a3,a4,a5,bA⟩,hu⟩:=ar.at k ak;have bU:=(M.cell (p:=⟨g,_,none⟩) (J2 a0)).trans a0;have bV:=(M.cell (p:=⟨g,_,none⟩) (J2 aF)).trans aF;have bW:=(M.cell (p:=⟨g,_,none⟩) (J2 a2)).trans a2;have bX:=(M.cell (p:=⟨g,_,none⟩) (J2 a3)).trans a3;have bY:=(M.cell (p:=⟨g,_,none⟩) (J2 a4)).trans a4;have ch:=(M.cell (p:=⟨g,_,none⟩) (J2 a5)).trans a5;have ci:=(M.cell (p:=⟨g,_,none⟩) (J2 bA)).trans bA;have bz:=zlt (Ys ak);have bL:=au.at xs[k] (Ys ak);obtain⟨r,aG⟩:=Ze (f k)
       have aM:∀(bf:Nat) (a:Int),a=bf->bf<=1000->a=(room:Int)-(if k=0/\aL=true then 0 else 1)->ZH (ZC 71 #[.agg #[Zi b1,Zi bt,Zi b2,.string S',.slice bu aC U,.slice bv aV Y,.slice aD bw c3],Zi a] wr (.bool r)):=fun bf a b3 hd he=>by
        have:=av xs[k] _ bf wr (ExValD.below M hu) (by omega) bL hd;rw[aG,J0 bc k ak,<-he,b3];exact this
       have al:ZH (f k=false->ad=false):=fun h=>by rw[J0 ac,J0 aj,allB_no ak h,Xw]
       have am:ZH (f k=true->zlc (k+1) f=true):=fun h=>by rw[zkp,J0 ah,h];rfl
       rw[<-aG]at al am;clear a0 aF a2 a3 a4 a5 bA hu bz bL au av bc aj ar ac ah aG;have bq:(k=0/\aL=true)∨(k=0/\aL=false)∨k≠0:=by cases aL <;> simp <;> omega
       rcases bq with⟨ao,an⟩|⟨ao,an⟩|ao
       ·have ab:=aM room room rfl bO (by simp[ao,an]);have bM:((k:Int)==0)=true:=by rw[ao];rfl
        clear ao aM;subst an
        cases r
        ·have V:ZH (ad=false):=al rfl;clear al am;go_wp2_with fail;refine(aE _).mono ?_;rintro x bB ⟨rfl,rfl⟩;go_wp2_with fail;refine ab.mono ?_;rintro x w1 ⟨rfl,ai⟩;clear ab;go_wp2_with fail;go_ret;exact⟨by rw[J0 V];rfl,bon' M ai⟩
        ·have aH:=J3 (J0 am rfl);clear al am;go_wp2_with fail;refine(aE _).mono ?_;rintro x bB ⟨rfl,rfl⟩;go_wp2_with fail;refine ab.mono ?_;rintro x w1 ⟨rfl,ai⟩;clear ab;go_wp2_with fail;go_roundw
         case rel=>exact⟨k+1,by go_num,by omega,bon' ag ai,aH⟩
         case measure=>simp[intOf];omega
       ·have ab:=aM (room-1) ((room:Int)-1) (by omega) (by omega) (by simp[an]);have bM:((k:Int)==0)=true:=by rw[ao];rfl
        clear ao aM;subst an
        cases r
        ·have V:ZH (ad=false):=al rfl;clear al am;go_wp2_with fail;refine(aE _).mono ?_;rintro x bB ⟨rfl,rfl⟩;go_wp2_with fail;refine ab.mono ?_;rintro x w1 ⟨rfl,ai⟩;clear ab;go_wp2_with fail;go_ret;exact⟨by rw[J0 V];rfl,bon' M ai⟩
        ·have aH:=J3 (J0 am rfl);clear al am;go_wp2_with fail;refine(aE _).mono ?_;rintro x bB ⟨rfl,rfl⟩;go_wp2_with fail;refine ab.mono ?_;rintro x w1 ⟨rfl,ai⟩;clear ab;go_wp2_with fail;go_roundw
         case rel=>exact⟨k+1,by go_num,by omega,bon' ag ai,aH⟩
         case measure=>simp[intOf];omega
       ·have ab:=aM (room-1) ((room:Int)-1) (by omega) (by omega) (by simp[ao]);obtain⟨bM,z2⟩:=beqf (show(k:Int)≠0 by omega);clear ao aE aM
        cases r
        ·have V:ZH (ad=false):=al rfl;clear al am;go_wp2_with fail;refine ab.mono ?_;rintro x w1 ⟨rfl,ai⟩;clear ab;go_wp2_with fail;go_ret;exact⟨by rw[J0 V];rfl,bon' M ai⟩
        ·have aH:=J3 (J0 am rfl);clear al am;go_wp2_with fail;refine ab.mono ?_;rintro x w1 ⟨rfl,ai⟩;clear ab;go_wp2_with fail;go_roundw
         case rel=>exact⟨k+1,by go_num,by omega,bon' ag ai,aH⟩
         case measure=>simp[intOf];omega
      ·obtain rfl:k=xs.length:=by omega
       have V:ZH (ad=true):=by show _=_;rw[J0 ac,J0 bK,J0 aj,J0 ah];rfl
       have bZ:¬(xs.length:Int)<(xs.length:Int):=by omega
       clear ac bK aj ah ar au av aE bc;go_wp2_with fail;go_ret;exact⟨by rw[J0 V];rfl,M⟩
theorem zm7 (D:Nat):∀d,zl8 D d
 | 0=>fun t=>nomatch t
 | d+1=>rrightx_step D d (zm7 D d)
end Go.Proofs.YtdcbglnhhbmpgaaGreatDoor
