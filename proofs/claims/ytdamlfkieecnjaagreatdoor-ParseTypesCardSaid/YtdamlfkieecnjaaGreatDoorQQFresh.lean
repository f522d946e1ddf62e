import Derived.Test.YtdamlfkieecnjaaGreatDoorQQBeg
import Derived.Test.YtdamlfkieecnjaaGreatDoorQEqG
set_option maxHeartbeats 1000000
set_option maxRecDepth 100000
namespace Go.Proofs.YtdamlfkieecnjaaGreatDoor
open Go Go.RowKit Lx
def JH (s:RS) (ns:List Bs):Bs:=if (J5 s).2.1=1/\ns.contains (J5 s).2.2.1=true then[]else(JF s 1).2.2.1
theorem newS_else {en:Int} {s:RS} {ns:List Bs} (h:(J5 s).2.1≠1):newS en s ns=JX en s 1:=by
 unfold newS
 split
 ·have e:JX en s 1=Jb en s:=by simp[JX,h]
  rw[e];unfold Jb
  split <;> simp[zbv]
 ·rfl
theorem fresh_q (b:Nat) (en:Int) (ts:List Tok) (hn:ts.length<=100000) (s:RS) (v:Value) (ns:List Bs) (hl:ns.length<=1000000) (w:World) (h:RqAt b en ts s w) (hs:∀V,Kx b w V->SRow V v ns) :
  Calls Tryz.prog 98 #[rp b,v] w fun e w'=>e=.returned (.string ⟨(JH s ns).toArray⟩)/\RqAt b en ts (newS en s ns) w'/\Kx b w w':=by
 have IS:=J4 (kind_q b en ts s 1 (by decide) w h);have WD:=J4 (word_q b en ts hn s 1 (by decide));have FL:=J4 (zdv b en ts s 20 (by decide));have HV:=J4 hs;by_cases hx:(J5 s).2.1=1
 ·rw[show((J5 s).2.1==1)=true by simpa using hx]at IS;have hso:=kind_open (by decide) hx;obtain⟨S,hS⟩:∃S,S=(J5 s).2.2.1:=⟨_,rfl⟩
  have EY:Hid (S∈ns->JH s ns=[]/\newS en s ns=zbk en 20 s):=fun hm=>by
   have hc:ns.contains S=true:=by simpa using hm
   refine⟨by simp[JH,hx,<-hS,hm],?_⟩;have e3:JF s 1=J5 s:=by simp[JF,hx]
   have e4:JX en s 1=J7 s:=by simp[JX,hx]
   rw[newS,e3,<-hS,if_pos hc,e4];obtain⟨l,r⟩:=s
   cases l with
   | nil=>exact absurd rfl hso
   | cons t l=>simp[zbk,zbv,J7,J5]
  have EN:Hid (S∉ns->JH s ns=(JF s 1).2.2.1/\newS en s ns=JX en s 1):=fun hm=>by
   have hc:ns.contains S=false:=by simpa using hm
   have e3:JF s 1=J5 s:=by simp[JF,hx]
   refine⟨by simp[JH,hx,<-hS,hm],?_⟩;rw[newS,e3,<-hS,hc];simp
  obtain⟨F,hF⟩:∃F,F=JH s ns:=⟨_,rfl⟩
  obtain⟨s',hs'⟩:∃s',s'=newS en s ns:=⟨_,rfl⟩
  rw[<-hF,<-hs']at EY EN ⊢;clear hF hs';obtain⟨vp,vc,hvv⟩:∃vp vc,v=.slice vp ns.length vc:=by
   obtain⟨p,c,e,-⟩:=hs w (Kl.refl _ _ _);exact⟨p,c,e⟩
  subst hvv;clear hx h hs;go_enter Tryz.func98,Tryz.ntmps98;go_wp2_with (go_at_call 94;refine(J0 IS).mono ?_;clear IS;rintro e w2 ⟨rfl,r1,r2⟩;have R1:=J4 r1;have R2:=J4 r2;clear r1 r2);obtain⟨vp2,vc2,evv,hvn⟩:=J0 HV w2 (J0 R2);injection evv with ea eb ec
  subst ea ec;have VN:=J4 hvn;obtain⟨i,y,a,hq,hqs⟩:=id (J0 R1);rw[hqs]at hso;obtain⟨rfl,hi⟩:=zaz hso;obtain⟨t,ht⟩:∃t,ts[i]?=some t:=⟨_,List.getElem?_eq_getElem hi⟩
  obtain⟨p,c,h1,h2,h3⟩:=id hq;obtain⟨g,o,rfl,t0,t1,t2,t3⟩:=h2.tok ht;obtain⟨⟨c0,c1,c2,c3,c4⟩,cf⟩:=zc0 h1;have hSt:t.2.2.1=S:=by rw[hS,hqs];simp[qs,zdy ht,J5]
  rw[hSt]at t2;have hi2:(i:Int)<(ts.length:Int):=by omega
  clear hvn hq hqs hS hSt h1 h2 ht HV t0 t1 t3 c1 c3 c4 cf eb hso
  go_loopw [5] (fun j wr=>∃k nd:Nat,j=.int .i64 k/\k<=ns.length/\wr=w2.drewN nd/\Hid (S∉ns.take k)) (fun j _=>ns.length-(intOf j).toNat)
  case atStart=>exact⟨0,0,rfl,by omega,rfl,(by show _∉_;simp)⟩
  case round=>
   obtain⟨k,nd,rfl,hk,rfl,HE⟩:=hrel;by_cases hlt:k<ns.length
   ·obtain⟨g2,o2,rfl,a0⟩:=J0 VN k ns[k] (by simp[hlt]);have hlt':(k:Int)<(ns.length:Int):=by omega
    by_cases hxy:ns[k]=S
    ·have hm:=(J0 EY) (by rw[<-hxy];exact List.getElem_mem hlt);rw[hxy]at a0;obtain⟨f1,f2⟩:=hm;subst f1;subst f2;clear hxy EY EN;go_wp2;go_quiet (fail);have R3:Hid (RqAt b en ts s ((w2.drewN nd).drewN nq)):=(J0 R1).below (below_drewN (below_drewN (Below.refl _ _) nd) nq);have K3:Hid (Kx b w ((w2.drewN nd).drewN nq)):=((J0 R2).drewN nd).drewN nq;obtain⟨W3,hW3⟩:∃W3,W3=(w2.drewN nd).drewN nq:=⟨_,rfl⟩
     rw[<-hW3]at R3 K3
     (try rw[<-hW3])
     clear hW3 a0 t2 c0 c2;go_wp2_with (go_at_call 71;refine(J0 FL _ (J0 R3)).mono ?_;clear FL;rintro e w4 ⟨rfl,q1,q2⟩;have Q1:=J4 q1;have Q2:=J4 q2;clear q1 q2);go_ret;exact⟨rfl,J0 Q1,Kl.on (J0 K3) (J0 Q2)⟩
    ·have hne:=bs_ne hxy;have HX:Hid (S∉ns.take (k+1)):=by
      show S∉_;rw[List.take_succ_eq_append_getElem hlt,List.mem_append];rintro(e|e)
      ·exact J0 HE e
      ·exact hxy (List.mem_singleton.1 e).symm
     clear hxy;obtain⟨X,hX⟩:∃X:ByteArray,X=⟨ns[k].toArray⟩:=⟨_,rfl⟩
     obtain⟨Y,hY⟩:∃Y:ByteArray,Y=⟨S.toArray⟩:=⟨_,rfl⟩
     rw[<-hX,<-hY]at hne;rw[<-hX]at a0;rw[<-hY]at t2;clear hX hY;go_wp2;go_quiet (fail);go_wp2;go_roundw
     case rel=>exact⟨k+1,nd+nq,by go_num,by omega,by simp[World.drewN],HX⟩
     case measure=>simp[intOf];omega
   ·have hm:=J0 EN (by have:=J0 HE;rwa[List.take_of_length_le (by omega)]at this);obtain⟨f1,f2⟩:=hm;subst f1;subst f2;have R3:Hid (RqAt b en ts s (w2.drewN nd)):=(J0 R1).below (below_drewN (Below.refl _ _) nd);have K3:Hid (Kx b w (w2.drewN nd)):=(J0 R2).drewN nd;clear EY EN t2 c0 c2;go_wp2_with (go_at_call 95;refine(J0 WD _ (J0 R3)).mono ?_;clear WD;rintro e w4 ⟨rfl,q1,q2⟩;have Q1:=J4 q1;have Q2:=J4 q2;clear q1 q2);go_ret;exact⟨rfl,J0 Q1,Kl.on (J0 K3) (J0 Q2)⟩
 ·rw[show((J5 s).2.1==1)=false by simpa using hx]at IS;have e1:JH s ns=(JF s 1).2.2.1:=by simp[JH,hx]
  rw[e1,newS_else hx];clear hx e1 h hs FL HV;go_enter Tryz.func98,Tryz.ntmps98;go_wp2_with (first|(go_at_call 94;refine(J0 IS).mono ?_;clear IS;rintro e w2 ⟨rfl,r1,r2⟩;have R1:=J4 r1;have R2:=J4 r2;clear r1 r2)|(go_at_call 95;refine(J0 WD _ (J0 R1)).mono ?_;clear WD;rintro e w3 ⟨rfl,q1,q2⟩;have Q1:=J4 q1;have Q2:=J4 q2;clear q1 q2));exact bodyPost_ret (v:=.string ⟨(JF s 1).2.2.1.toArray⟩) (by simp[results,Tryz.results98,go_sem]) rfl ⟨rfl,J0 Q1,Kl.on (J0 R2) (J0 Q2)⟩
end Go.Proofs.YtdamlfkieecnjaaGreatDoor
