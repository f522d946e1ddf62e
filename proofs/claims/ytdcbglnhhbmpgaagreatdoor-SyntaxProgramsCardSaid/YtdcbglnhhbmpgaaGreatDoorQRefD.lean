import Derived.Test.YtdcbglnhhbmpgaaGreatDoorQRefC
import Derived.Test.YtdcbglnhhbmpgaaGreatDoorQEqG
import Derived.Deep.DeepCutAuto
set_option maxHeartbeats 8000000
set_option maxRecDepth 100000
namespace Go.Proofs.YtdcbglnhhbmpgaaGreatDoor
open Go Go.RowKit Lx
theorem bon' {u v w:Zw} (h:ZB u v) (k:ZB v w):ZB u w:=Zn h k
theorem isTok_data (k:Int) (s:Bs):sound (0,k,(⟨s.toArray⟩:Zy).data.toList,0)=za3 k s:=by show sound (0,k,s.toArray.toList,0)=_;rw[List.toList_toArray];rfl
theorem zi6 (s:Bs) (w:Zw) (g:s.length<=60000):ZC 32 #[.string ⟨s.toArray⟩] w (.bool (za3 2 s)):=by
 have c:ZH (Zg 58 #[.agg #[Zi 0,Zi 2,.string ⟨s.toArray⟩,Zi 0]] w fun e w'=>∃X:Zy,e=.returned (.tuple #[.string X,.bool (za3 2 s)])/\ZB w w'):=
  (rOne_any 0 2 0 ⟨s.toArray⟩ w (by show s.toArray.size<=_;simpa using g) (by decide)).mono fun e w' ⟨X,he,_,h⟩=>⟨X,by rw[he,isTok_data],h⟩
 generalize za3 2 s=r at c ⊢;go_enter Tryz.func32,Tryz.ntmps32;go_wp2_with (go_at_call 58;refine c.mono ?_;clear c;rintro x w1 ⟨X,rfl,j⟩);go_ret;exact⟨rfl,j⟩
theorem zj3 (s:Bs) (w:Zw) (g:s.length<=60000):ZC 42 #[.string ⟨s.toArray⟩] w (.bool (za3 1 s)):=by
 have c:ZH (Zg 58 #[.agg #[Zi 0,Zi 1,.string ⟨s.toArray⟩,Zi 0]] w fun e w'=>∃X:Zy,e=.returned (.tuple #[.string X,.bool (za3 1 s)])/\ZB w w'):=
  (rOne_any 0 1 0 ⟨s.toArray⟩ w (by show s.toArray.size<=_;simpa using g) (by decide)).mono fun e w' ⟨X,he,_,h⟩=>⟨X,by rw[he,isTok_data],h⟩
 generalize za3 1 s=r at c ⊢;go_enter Tryz.func42,Tryz.ntmps42;go_wp2_with (go_at_call 58;refine c.mono ?_;clear c;rintro x w1 ⟨X,rfl,j⟩);go_ret;exact⟨rfl,j⟩
theorem zjf (c:List Bs):zaj c=true↔(∀s∈c,za3 1 s=true)/\c.Nodup:=by simp[zaj]
theorem nodup_take {c:List Bs} {k:Nat} (h:k<c.length):(c.take (k+1)).Nodup↔(c.take k).Nodup/\∀j (r:j<k),c[j]≠c[k]:=by
 rw[Yq h,List.nodup_append]
 constructor
 ·rintro⟨g,_,s⟩;refine⟨g,fun j r e=>?_⟩;exact s c[j] (List.mem_take_iff_getElem.2 ⟨j,by omega,rfl⟩) c[k] (by simp) e
 ·rintro⟨g,t⟩;refine⟨g,by simp,fun a u b x=>?_⟩;obtain⟨j,r,rfl⟩:=List.mem_take_iff_getElem.1 u;rw[Xg.1 x];exact t j (by omega)
theorem zmw (v:Value) (r:List Bs) (w:Zw) (hv:SRow w v r) (hl:r.length<=1000000) (t:∀s∈r,s.length<=60000) :
  ZC 44 #[v] w (.bool (zaj r)):=by
 obtain⟨p,c,rfl,hp⟩:=hv;have HP:ZH (∀k (u:k<r.length),∃g o,p=some ⟨g,o,none⟩/\w.cell? ⟨g,o+k,none⟩=some (.string ⟨r[k].toArray⟩)):=fun k u=>hp k r[k] (by simp)
 have HS:ZH (∀k (u:k<r.length) W,ZC 42 #[.string ⟨r[k].toArray⟩] W (.bool (za3 1 r[k]))):=fun k u W=>zj3 _ W (t _ (by simp))
 clear hp t;go_enter Tryz.func44,Tryz.ntmps44;go_wp2
 go_loopw [3] (fun i wr=>∃k:Nat,i=Zi k/\k<=r.length/\ZH (ZB w wr)/\ZH ((∀s∈r.take k,za3 1 s=true)/\(r.take k).Nodup)) (fun i _=>r.length-(intOf i).toNat)
 case atStart=>exact⟨0,rfl,by omega,Zr,⟨by simp,by simp⟩⟩
 case round=>
  obtain⟨k,rfl,u,L,HE⟩:=hrel;by_cases J:k<r.length
  ·obtain⟨g,o,rfl,a0⟩:=HP k J;have ag:(k:Int)<(r.length:Int):=by omega
   have b0:=(L.cell (p:=⟨g,_,none⟩) (J2 a0)).trans a0;have G:=J3 (J0 HS k J wr);clear HS;have ab:r[k]∈r:=by simp
   by_cases M:za3 1 r[k]=true
   ·rw[M]at G;go_wp2_with (go_at_call 42;refine G.mono ?_;clear G;rintro x w1 ⟨rfl,aa⟩)
    go_loopw [4] (fun i wr=>∃j nd:Nat,i=Zi j/\j<=k/\wr=w1.drewN nd/\ZH (∀i (U:i<j) (u:i<r.length),r[i]≠r[k])) (fun i _=>k-(intOf i).toNat)
    case atStart=>exact⟨0,0,rfl,by omega,rfl,fun i U=>by omega⟩
    case round=>
     obtain⟨j,nd,rfl,hj,rfl,HN⟩:=hrel;have V:=J3 (bon' L aa);by_cases ac:j<k
     ·have ah:(j:Int)<(k:Int):=by omega
      have ad:j<r.length:=by omega
      have ai:(j:Int)<(r.length:Int):=by omega
      obtain⟨g',o',e,Z⟩:=HP j ad;obtain⟨rfl,rfl⟩:g=g'/\o=o':=by simpa using e
      have c0:=(V.cell (p:=⟨g,_,none⟩) (J2 a0)).trans a0;have c1:=(V.cell (p:=⟨g,_,none⟩) (J2 Z)).trans Z;by_cases I:r[k]=r[j]
      ·have HF:ZH (zaj r=false):=by
        show _=_;rw[<-Yb,zjf];rintro⟨_,hn⟩;exact((nodup_take J).1 (hn.sublist (List.take_sublist _ _))).2 j ac I.symm
       rw[<-I]at c1;clear a0 Z I;go_wp2;go_quiet (fail);go_wp2;go_ret;exact⟨by rw[J0 HF];rfl,Yw (Yw V _) _⟩
      ·have ae:=bs_ne I;have HX:=J3 I;obtain⟨X,hX⟩:=Ze (⟨r[k].toArray⟩:Zy)
       obtain⟨Y,hY⟩:=Ze (⟨r[j].toArray⟩:Zy)
       rw[<-hX,<-hY]at ae;rw[<-hX]at c0;rw[<-hY]at c1;clear hX hY a0 Z I b0;go_wp2;go_quiet (fail);go_wp2;go_roundw
       case rel=>exact⟨j+1,nd+nq,by go_num,by omega,by simp[World.drewN],(by
        show ∀i (U:i<j+1) (u:i<r.length),r[i]≠r[k]
        intro i U af;rcases YW i j with h|h
        ·exact HN i h af
        ·obtain rfl:i=j:=by omega
         exact fun e=>J0 HX e.symm)⟩
       case measure=>simp[intOf];omega
     ·have HX:ZH ((∀s∈r.take (k+1),za3 1 s=true)/\(r.take (k+1)).Nodup):=by
       refine⟨fun s t=>?_,(nodup_take J).2 ⟨HE.2,fun i U=>J0 HN i (by omega) (by omega)⟩⟩;rw[Yq J,YZ]at t;rcases t with t|t
       ·exact HE.1 s t
       ·rw[Xg.1 t];exact M
      go_wp2;go_roundw
      case rel=>exact⟨k+1,by go_num,by omega,Yw V _,HX⟩
      case measure=>simp[intOf];omega
   ·have HF:ZH (zaj r=false):=by
     show _=_;rw[<-Yb,zjf];rintro⟨h,_⟩;exact M (h _ ab)
    rw[(Yb _).mp M]at G;go_wp2_with (go_at_call 42;refine G.mono ?_;clear G;rintro x w1 ⟨rfl,aa⟩);go_ret;exact⟨by rw[J0 HF];rfl,bon' L aa⟩
  ·have HT:ZH (zaj r=true):=(zjf r).2 (by
    have:=J0 HE;rwa[YS (by omega)]at this)
   go_wp2;go_ret;exact⟨by rw[J0 HT];rfl,L⟩
def kindD:(d:Nat)->Ty d->Int
 | 0,_=>0
 | _+1,t=>t.1
def JP (d:Nat) (room:Int) (t:Ty d):Bool:=Ju d room [t]
theorem zcz (d:Nat) (room:Int) (t:Ty (d+1)):JP (d+1) room t=ze8 d room t:=by
 rw[JP,Ju,YL,List.all_nil,X4];rfl
theorem rights_at:∀{d:Nat} {room:Int} {c:List (Ty d)} {k:Nat} (h:k<c.length),Ju d room (c.drop k)=(JP d room c[k]&&Ju d room (c.drop (k+1)))
 | 0,_,c,_,h=>by
  match c,h with
  | t::_,_=>exact nomatch t
 | d+1,room,c,k,h=>by rw[zkr h,zcz]
theorem zjr:∀(d:Nat) (room:Int),Ju d room []=true
 | 0,_=>by rw[Ju]
 | _+1,_=>by rw[Ju];rfl
theorem fns_at:∀{d:Nat} {c:List (Ty d)} {k:Nat} (h:k<c.length),fnsB d (c.drop k)=((kindD d c[k]==7)&&fnsB d (c.drop (k+1)))
 | 0,c,_,h=>by
  match c,h with
  | t::_,_=>exact nomatch t
 | d+1,c,k,h=>by rw[fns_drop h];rfl
theorem fns_nil:∀(d:Nat),fnsB d []=true
 | 0=>by rw[fnsB]
 | _+1=>by rw[fnsB];rfl
theorem zld:∀{d:Nat} {W:Zw} {t:Ty d} {K:Int} {a b c e:Value},TyValD W d (.agg #[Zi K,a,b,c,e]) t->K=kindD d t
 | 0,_,t,_,_,_,_,_,_=>nomatch t
 | d+1,W,t,K,a,b,c,e,h=>by
  obtain⟨pn,pe,pp,cn,ce,cp,g,_⟩:=h;injection g with j
  have:=congrArg (fun(x:Array Value)=>x[0]?) j;have r:K=t.1:=by simpa using this
  exact r
theorem nadd0 (a b c:Nat):((a:Int)+(b:Int)+(c:Int)==0)=(decide (a=0)&&decide (b=0)&&decide (c=0)):=by
 by_cases g:a=0 <;> by_cases h:b=0 <;> by_cases j:c=0 <;> simp[g,h,j] <;> omega
def RRightAt (d:Nat):Prop:=∀(t:Ty d) (v:Value) (room:Nat) (w:Zw),TyValD w d v t->szD d t<=60000->room<=1000 ->
 ZC 33 #[v,Zi (room:Int)] w (.bool (JP d room t))
theorem sum_mem {ms:List Bs} {s:Bs} (h:s∈ms):s.length<=zgm ms:=by
 induction ms with
 | nil=>cases h
 | cons x r c=>
  rcases Xj.1 h with rfl|h
  ·simp[zgm]
  ·have:=c h;simp only[zgm,Yf,YM]at this ⊢;omega
theorem rright_step (d:Nat) (IH:RRightAt d):RRightAt (d+1):=fun t v room w hv hz hr=>by
 obtain⟨pn,pe,pp,cn,ce,cp,rfl,r1,r2,r3⟩:=hv;obtain⟨aB,ah⟩:=Ze (JP (d+1) room t)
 rw[<-ah];rw[zcz,ze8]at ah;obtain⟨K,S,ms,es,c⟩:=t;have aC:1+S.length+ms.length+es.length+zgm ms+szL d c<=60000:=hz;dsimp only at *;have aJ:c.length<=60000:=Yh (Yh (zbh _ c) (zc3 _ c)) (by omega);have HG:ZH (∀W,ZC 32 #[.string ⟨S.toArray⟩] W (.bool (za3 2 S))):=fun W=>zi6 S W (by omega)
 have HP:ZH (∀W m,m=ms.length->ZB w W->ZC 44 #[.slice pn m cn] W (.bool (zaj ms))):=fun W m hm hW=>by
  subst hm;exact zmw _ ms W (r1.below hW) (by omega) fun s hs=>by have:=sum_mem hs;omega
 obtain⟨M,L⟩:∃b,b=za3 2 S:=⟨_,rfl⟩
 obtain⟨J,al⟩:∃b,b=zaj ms:=⟨_,rfl⟩
 obtain⟨U,am⟩:∃b,b=fnsB d c:=⟨_,rfl⟩
 obtain⟨b4,an⟩:∃b,b=Ju d ((room:Int)-1) c:=⟨_,rfl⟩
 obtain rfl:aB=(decide (0<(room:Int))&&JF K S ms.length es.length c.length M J U&&b4):=by rw[L,al,am,an];exact ah
 clear ah;rw[<-L]at HG;rw[<-al]at HP;have au:=J3 am;have av:=J3 an;have HI:=J3 IH;have aw:=J3 r3;have HA:ZH (ZB w (w.alloc (zdj K ⟨S.toArray⟩ pn pe pp ms.length es.length c.length cn ce cp))):=Za _ _;clear L al am an IH r1 r2 r3 hz;have aD:ms.length<=60000:=by omega
 have aE:es.length<=60000:=by omega
 have aK:szL d c<=60000:=by omega
 obtain⟨nn,ax⟩:=Ze ms.length
 obtain⟨ne,ae⟩:=Ze es.length
 rw[<-ax]at HP HA aD ⊢;rw[<-ae]at HA aE ⊢;clear ax ae aC;go_enter Tryz.func33,Tryz.ntmps33;by_cases h0:room=0
 ·subst h0;go_wp2;go_ret;exact⟨rfl,HA⟩
 have aL:((room:Int)==0)=false:=Y3.2 (by omega);have aF:decide (0<(room:Int))=true:=Xi (by omega);rw[aF,XD];go_wp2
 go_loopw [5] (fun i wr=>∃k:Nat,i=Zi k/\k<=c.length/\ZH (Below (w.alloc (zdj K ⟨S.toArray⟩ pn pe pp nn ne c.length cn ce cp)).heap.size (w.alloc (zdj K ⟨S.toArray⟩ pn pe pp nn ne c.length cn ce cp)) wr)/\ZH (b4=Ju d ((room:Int)-1) (c.drop k))) (fun i _=>c.length-(intOf i).toNat)
 case atStart=>exact⟨0,rfl,by omega,Zr,av⟩
 case round=>
  obtain⟨k,rfl,hk,HB,Y⟩:=hrel;obtain⟨d0,d1,d2,d3,d4⟩:=ze4 HB;have G:=J3 (Zn HA HB);by_cases Z:k<c.length
  ·have aG:(k:Int)<(c.length:Int):=by omega
   obtain⟨u,⟨g,o,K',S',qn,qe,q3,n1,c1,n2,c2,n3,c3,rfl,rfl,a0,a1,a2,a3,a4⟩,hu⟩:=aw.at k Z;have e0:=(G.cell (p:=⟨g,_,none⟩) (J2 a0)).trans a0;have e1:=(G.cell (p:=⟨g,_,none⟩) (J2 a1)).trans a1;have e2:=(G.cell (p:=⟨g,_,none⟩) (J2 a2)).trans a2;have e3:=(G.cell (p:=⟨g,_,none⟩) (J2 a3)).trans a3;have e4:=(G.cell (p:=⟨g,_,none⟩) (J2 a4)).trans a4;have aH:=zgn Z;have aI:szD d c[k]<=szL d c:=by
    have:szL d c=szL d (c.take (k+1))+szL d (c.drop (k+1)):=by unfold szL;rw[<-Yx,<-Yj,Xl]
    omega
   have ay:((room-1:Nat):Int)=(room:Int)-1:=by omega
   have CL:=HI c[k] _ (room-1) wr (TyValD.below G hu) (by omega) (by omega);rw[ay]at CL;have HT:=rights_at (room:=(room:Int)-1) Z;obtain⟨r,az⟩:=Ze (JP d ((room:Int)-1) c[k])
   rw[<-az]at CL HT;have ai:=J3 CL;have ab:=J3 HT;clear CL HT az aH aI ay a0 a1 a2 a3 a4 hu
   cases r
   ·go_wp2_with (go_at_call 33;refine ai.mono ?_;clear ai;rintro x w1 ⟨rfl,L⟩);go_ret;exact⟨by rw[J0 Y,J0 ab,Bool.false_and,Xw];rfl,bon' G L⟩
   ·go_wp2_with (go_at_call 33;refine ai.mono ?_;clear ai;rintro x w1 ⟨rfl,L⟩);go_roundw
    case rel=>exact⟨k+1,by go_num,by omega,bon' HB L,(by show _=_;rw[J0 Y,J0 ab,XD])⟩
    case measure=>simp[intOf];omega
  ·obtain rfl:k=c.length:=by omega
   have h4:b4=true:=by rw[J0 Y,List.drop_length,zjr]
   subst h4;have aG:¬(c.length:Int)<(c.length:Int):=by omega
   clear Y av hk Z HI;obtain⟨X,hX⟩:=Ze (⟨S.toArray⟩:Zy)
   have af:S=[]->X=⟨#[]⟩:=fun h=>by rw[hX,h]
   have ag:S≠[]->(X.toList==[])=false:=fun h=>by
    have h2:=bs_ne h;rw[<-hX]at h2;simpa using h2
   rw[<-hX]at HG;have D1:wr.cell? ⟨w.heap.size,1,none⟩=some (.string X):=by rw[hX];exact d1
   clear d1;go_upto_region 8 with fail
   go_cut [6] (fun o wx=>o=.bool (S.isEmpty&&decide (nn=0)&&decide (ne=0))/\wr=wx)
   case first=>
    by_cases I:S=[]
    ·obtain rfl:=af I;have aa:ZH (S.isEmpty=true):=by show _=_;rw[I];rfl
     clear af ag hX I;by_cases V:nn=0
     ·subst V;go_wp2;go_meet
      case rel=>exact⟨by rw[J0 aa,<-nb0 ne];rfl,rfl⟩
     ·have aj:((nn:Int)==0)=false:=by rw[nb0,Ym V]
      go_wp2;go_meet
      case rel=>exact⟨by rw[Ym V,Xw,Bool.false_and],rfl⟩
    ·have ae:=ag I;have aa:ZH (S.isEmpty=false):=by
      show _=_
      cases S with
      | nil=>exact absurd rfl I
      | cons=>rfl
     clear af ag hX I;go_wp2;go_meet
     case rel=>exact⟨by rw[J0 aa];rfl,rfl⟩
   case rest=>
    obtain⟨rfl,rfl⟩:=hcut;obtain⟨bb,ao⟩:=Ze ((S.isEmpty&&decide (nn=0)&&decide (ne=0)))
    rw[<-ao];have ap:=J3 ao;have ak:=J3 hX;have ac:=J3 af;have ad:=J3 ag;clear ao hX af ag;have hk:(K=1∨K=2∨K=3)∨K=4∨K=5∨K=6∨K=7∨K=8∨(K≠1/\K≠2/\K≠3/\K≠4/\K≠5/\K≠6/\K≠7/\K≠8):=by omega
    rcases hk with h|rfl|rfl|rfl|rfl|rfl|⟨k1,k2,k3,k4,k5,k6,k7,k8⟩
    ·have j:ZH (JF K S nn ne c.length M J U=(bb&&((c.length:Int)==0))):=by
      show _=_;rw[J0 ap,nb0,JF];rcases h with rfl|rfl|rfl <;> cases S.isEmpty <;> simp
     rcases h with rfl|rfl|rfl <;> cases bb
     all_goals
      go_wp2;go_ret;exact⟨by rw[J0 j];first|rfl|(rw[X4];rfl)|simp,G⟩
    ·cases M
     ·have j:ZH (JF 4 S nn ne c.length false J U=false):=by show _=_;simp[JF]
      go_wp2_with (go_at_call 32;refine(HG _).mono ?_;clear HG;rintro x w1 ⟨rfl,L⟩);go_ret;exact⟨by rw[J0 j];first|rfl|(rw[X4];rfl)|simp,bon' G L⟩
     ·have j:ZH (JF 4 S nn ne c.length true J U=((nn:Int)+(ne:Int)+(c.length:Int)==0)):=by show _=_;rw[nadd0];simp[JF]
      go_wp2_with (go_at_call 32;refine(HG _).mono ?_;clear HG;rintro x w1 ⟨rfl,L⟩;obtain⟨f0,f1,f2,f3,f4⟩:=ze4 (bon' HB L));go_ret;exact⟨by rw[J0 j];first|rfl|(rw[X4];rfl)|simp,bon' G L⟩
    ·have j:ZH (JF 5 S nn ne c.length M J U=(bb&&((c.length:Int)==1))):=by
      show _=_;rw[J0 ap,nb1,JF]
      cases S.isEmpty <;> simp
     cases bb
     all_goals
      go_wp2;go_ret;exact⟨by rw[J0 j];first|rfl|(rw[X4];rfl)|simp,G⟩
    ·by_cases I:S=[]
     ·obtain rfl:=ac I;have aa:ZH (S.isEmpty=true):=by show _=_;rw[I];rfl
      clear ac ad ak I;by_cases V:(nn:Int)=(c.length:Int)
      ·have aj:((nn:Int)==(c.length:Int))=true:=Xn.2 V;by_cases he:(ne:Int)=(c.length:Int)
       ·have aq:((ne:Int)==(c.length:Int))=true:=Xn.2 he;have j:ZH (JF 6 S nn ne c.length M J U=J):=by
         show _=_;have z1:decide (nn=c.length)=true:=Xi (by omega);have z2:decide (ne=c.length)=true:=Xi (by omega);simp[JF,J0 aa,z1,z2]
         try omega
        clear V he;go_wp2_with (go_at_call 44;refine(HP _ _ rfl G).mono ?_;clear HP;rintro x w1 ⟨rfl,L⟩);go_ret;exact⟨by rw[J0 j];first|rfl|(rw[X4];rfl)|simp,bon' G L⟩
       ·have aq:((ne:Int)==(c.length:Int))=false:=Y3.2 he;have j:ZH (JF 6 S nn ne c.length M J U=false):=by
         show _=_;have z2:decide (ne=c.length)=false:=Ym (by omega);simp[JF,z2]
         try omega
        clear V he;go_wp2;go_ret;exact⟨by rw[J0 j];first|rfl|(rw[X4];rfl)|simp,G⟩
      ·have aj:((nn:Int)==(c.length:Int))=false:=Y3.2 V;have j:ZH (JF 6 S nn ne c.length M J U=false):=by
        show _=_;have z1:decide (nn=c.length)=false:=Ym (by omega);simp[JF,z1]
        try omega
       clear V;go_wp2;go_ret;exact⟨by rw[J0 j];first|rfl|(rw[X4];rfl)|simp,G⟩
     ·have ae:=ad I;have j:ZH (JF 6 S nn ne c.length M J U=false):=by
       show _=_;have ar:S.isEmpty=false:=by
        cases S with
        | nil=>exact absurd rfl I
        | cons=>rfl
       simp[JF,ar]
      clear ac ad ak I;go_wp2;go_ret;exact⟨by rw[J0 j];first|rfl|(rw[X4];rfl)|simp,G⟩
    ·have j:ZH (JF 7 S nn ne c.length M J U=(bb&&decide ((0:Int)<(c.length:Int)))):=by
      show _=_;rw[J0 ap,JF];have:decide (1<=c.length)=decide ((0:Int)<(c.length:Int)):=decide_eq_decide.2 (by omega)
      cases S.isEmpty <;> simp[this]
     cases bb
     all_goals
      go_wp2;go_ret;exact⟨by rw[J0 j];first|rfl|(rw[X4];rfl)|simp,G⟩
    ·go_wp2
     go_loopw [7] (fun i wx=>∃k:Nat,i=Zi k/\k<=c.length/\wx=wr/\ZH (U=fnsB d (c.drop k))) (fun i _=>c.length-(intOf i).toNat)
     case atStart=>exact⟨0,rfl,by omega,rfl,au⟩
     case round=>
     obtain⟨k,rfl,hk,rfl,Y⟩:=hrel;by_cases Z:k<c.length
     ·have aM:(k:Int)<(c.length:Int):=by omega
      obtain⟨u,⟨g,o,K',S',qn,qe,q3,n1,c1,n2,c2,n3,c3,rfl,rfl,a0,a1,a2,a3,a4⟩,hu⟩:=aw.at k Z;have e0:=(G.cell (p:=⟨g,_,none⟩) (J2 a0)).trans a0;have HT:=fns_at Z;rw[<-zld hu]at HT;have ab:=J3 HT;clear HT a0 a1 a2 a3 a4 hu;by_cases h7:K'=7
      ·subst h7;go_wp2;go_roundw
       case rel=>exact⟨k+1,by go_num,by omega,by trivial,(by show _=_;rw[J0 Y,J0 ab];rfl)⟩
       case measure=>simp[intOf];omega
      ·have aA:(K'==7)=false:=Y3.2 h7;have aN:(K' != 7)=true:=by rw[bne,aA];rfl
       have j:ZH (JF 8 S nn ne c.length M J U=false):=by
        show _=_;have z:U=false:=by rw[J0 Y,J0 ab,aA];rfl
        rw[z];simp[JF]
       clear ab;go_wp2;go_ret;exact⟨by rw[J0 j];first|rfl|(rw[X4];rfl)|simp,G⟩
     obtain rfl:k=c.length:=by omega
     have h3:U=true:=by rw[J0 Y,List.drop_length,fns_nil]
     subst h3;clear Y au hk Z;by_cases I:S=[]
     ·obtain rfl:=ac I;have aa:ZH (S.isEmpty=true):=by show _=_;rw[I];rfl
      clear ac ad ak I;by_cases V:(nn:Int)=(c.length:Int)
      ·have aj:((nn:Int)==(c.length:Int))=true:=Xn.2 V;by_cases he:(ne:Int)=0
       ·have aq:((ne:Int)==0)=true:=Xn.2 he;have j:ZH (JF 8 S nn ne c.length M J true=J):=by
         show _=_;have z1:decide (nn=c.length)=true:=Xi (by omega);have z2:decide (ne=0)=true:=Xi (by omega);simp[JF,J0 aa,z1,z2]
         try omega
        clear V he;go_wp2_with (go_at_call 44;refine(HP _ _ rfl G).mono ?_;clear HP;rintro x w1 ⟨rfl,L⟩);go_ret;exact⟨by rw[J0 j];first|rfl|(rw[X4];rfl)|simp,bon' G L⟩
       ·have aq:((ne:Int)==0)=false:=Y3.2 he;have j:ZH (JF 8 S nn ne c.length M J true=false):=by
         show _=_;have z2:decide (ne=0)=false:=Ym (by omega);simp[JF,z2]
         try omega
        clear V he;go_wp2;go_ret;exact⟨by rw[J0 j];first|rfl|(rw[X4];rfl)|simp,G⟩
      ·have aj:((nn:Int)==(c.length:Int))=false:=Y3.2 V;have j:ZH (JF 8 S nn ne c.length M J true=false):=by
        show _=_;have z1:decide (nn=c.length)=false:=Ym (by omega);simp[JF,z1]
        try omega
       clear V;go_wp2;go_ret;exact⟨by rw[J0 j];first|rfl|(rw[X4];rfl)|simp,G⟩
     ·have ae:=ad I;have j:ZH (JF 8 S nn ne c.length M J true=false):=by
       show _=_;have ar:S.isEmpty=false:=by
        cases S with
        | nil=>exact absurd rfl I
        | cons=>rfl
       simp[JF,ar]
      clear ac ad ak I;go_wp2;go_ret;exact⟨by rw[J0 j];first|rfl|(rw[X4];rfl)|simp,G⟩
    ·have j:ZH (JF K S nn ne c.length M J U=false):=by
      show _=_;rw[JF];simp[k1,k2,k3,k4,k5,k6,k7,k8]
     have q1:(K==1)=false:=Y3.2 k1;have q2:(K==2)=false:=Y3.2 k2;have q3:(K==3)=false:=Y3.2 k3;have q4:(K==4)=false:=Y3.2 k4;have q5:(K==5)=false:=Y3.2 k5;have q6:(K==6)=false:=Y3.2 k6;have q7:(K==7)=false:=Y3.2 k7;have q8:(K==8)=false:=Y3.2 k8;go_wp2;go_ret;exact⟨by rw[J0 j];first|rfl|(rw[X4];rfl)|simp,G⟩
theorem zdx:∀d,RRightAt d
 | 0=>fun t=>nomatch t
 | d+1=>rright_step d (zdx d)
end Go.Proofs.YtdcbglnhhbmpgaaGreatDoor
