import Derived.Test.YtdcbglnhhbmpgaaGreatDoorQJoinF
import Derived.Test.YtdcbglnhhbmpgaaGreatDoorQSynA
set_option maxHeartbeats 4000000
set_option maxRecDepth 100000
namespace Go.Proofs.YtdcbglnhhbmpgaaGreatDoor
open Go Go.RowKit Lx
def za3 (k:Int) (s:Bs):Bool:=sound (0,k,s,0)
theorem join_one (t:Tok):∃(l:Zy) (y:Int),JI (join [t])=.tuple #[.string l,Zi y]/\sound t=(y != 1):=by
 by_cases h:sound t=true
 ·have c:[t].all sound=true:=by simp[h]
  rw[join,Y7 (by rw[c];simp)];rcases zej [t] 0 []with _|l
  ·exact⟨_,2,rfl,by rw[h];rfl⟩
  ·exact⟨_,0,rfl,by rw[h];rfl⟩
 ·have h:=(Yb _).mp h;rw[join,Ye (by simp[h])];exact⟨_,1,rfl,by rw[h];rfl⟩
theorem zcb (k:Int) (s:Bs) (w:Zw) (J:s.length<=35184372088832) (L:Tab w) (M:4<=w.heap.size) :
  ZC 73 #[Zi k,.string ⟨s.toArray⟩] w (.bool (za3 k s)):=by
 obtain⟨l,y,r,u⟩:=join_one (0,k,s,0);obtain⟨O,x⟩:=Ze (.cells #[Zi 0,Zi k,.string ⟨s.toArray⟩,Zi 0] 112:Obj)
 have g:ZB w (w.alloc O):=(Yu _ _).alloc (Y5 _) O;have c:∀j,(w.alloc O).cell? ⟨w.heap.size,j,none⟩=#[Zi 0,Zi k,.string ⟨s.toArray⟩,Zi 0][j]?:=fun j=>by rw[x,Ya _ _ _ _ (by rfl)]
 have G:ZH (Zg 68 #[.slice (Zs w.heap.size 0) 1 1] (w.alloc O) fun e w'=>e=.returned (.tuple #[.string l,Zi y])/\Below (w.alloc O).heap.size (w.alloc O) w'):=by
  show Calls _ _ _ _ _;rw[<-r];refine Join_any _ [(0,k,s,0)] _ ⟨_,_,rfl,fun j t I=>?_⟩ (by simp) (fun t h=>?_) (L.below g M) (by simp;omega)
  ·match j with
   | 0=>
    obtain rfl:(0,k,s,0)=t:=by simpa using I
    exact⟨_,_,rfl,c 0,c 1,c 2,c 3⟩
   | j+1=>simp at I
  ·rw[Xg]at h;subst h;exact⟨J,(show(-9223372036854775808:Int)<=0 by decide),(show(0:Int)<=9223372036854775807 by decide)⟩
 have U:ZH (za3 k s=(y != 1)):=u;have V:=J3 g;clear r u c g;go_enter Tryz.func73,Tryz.ntmps73;go_wp2_with (go_at_call 68;rw[<-x];refine G.mono ?_;clear G;rintro e w1 ⟨rfl,Y⟩);go_ret;exact⟨by rw[J0 U];rfl,V.trans (Y.mono (by simp))⟩
open Go Go.RowKit Go.Maps Go.WideMaps Lx
def zaj (c:List Bs):Bool:=c.all (za3 1)&&decide c.Nodup
theorem names_drop {c:List Bs} {k:Nat} (h:k<c.length):(c.drop k).all (za3 1)=(za3 1 c[k]&&(c.drop (k+1)).all (za3 1)):=by
 rw[Yt h,YL]
theorem zds {P:Program} {k:TypeId} {R:Value->Option (DataW Unit×List MemPlace)} {b n B:Nat} {D:DataW Unit} {w w':Zw} (h:w.ownsMap P k R b n D) (c:Below B w w') (g:b<B):w'.ownsMap P k R b n D:=by
 obtain⟨es,clock,j,r⟩:=h;exact⟨es,clock,(c.block _ g).trans j,r⟩
theorem ziy:Keyed Tryz.prog 9:=string_keyed Tryz.underlying9
theorem zep (v:Value) (r:List Bs) (w:Zw) (hv:SRow w v r) (hl:r.length<=1000000) (L:∀s∈r,s.length<=35184372088832) (M:Tab w) (h5:4<=w.heap.size) :
  ZC 117 #[v] w (.bool (zaj r)):=by
 obtain⟨p,c,rfl,hp⟩:=hv;have HP:=J3 hp;have HS:=J3 L;have HT:=J3 M;clear hp L M;have ab:=@run_makeMap Tryz.prog;go_enter Tryz.func117,Tryz.ntmps117;go_wp2;clear ab
 go_loopw [9] (fun i wr=>∃k:Nat,i=Zi k/\k<=r.length/\ZH (r.all (za3 1)=(r.drop k).all (za3 1))/\ZH (wr.ownsMap Tryz.prog 9 (unitElem (H:=Unit)) w.heap.size k (setB (r.take k)))/\w.heap.size<wr.heap.size/\ZB w wr) (fun i _=>r.length-(intOf i).toNat)
 case atStart=>exact⟨0,rfl,by omega,rfl,World.ownsMap_made _ _ _ _,by simp,Za _ _⟩
 case round=>
  obtain⟨k,rfl,hk,I,U,ac,G⟩:=hrel;by_cases J:k<r.length
  ·obtain⟨g,o,rfl,a0⟩:=HP k r[k] (by simp[J]);have af:(k:Int)<(r.length:Int):=by omega
   have b0:=(G.cell (p:=⟨g,_,none⟩) (J2 a0)).trans a0;have V:=HS r[k] (by simp);have Y:=J3 G;have t:=J3 (zcb 1 r[k] wr V (HT.below G h5) (by omega));have Z:keyOf Tryz.prog 9 (.string ⟨r[k].toArray⟩)=some (keyB r[k]):=keyOf_string_mk Tryz.underlying9 (by show r[k].toArray.size<=maxLen;unfold maxLen;simp;omega);have HK:=J3 Z;have HD:=J3 (names_drop J);clear a0 G Z V;by_cases u:za3 1 r[k]=true
   ·rw[u]at t;go_wp2_with (first
     | (go_at_call 73;refine t.mono ?_;clear t;rintro e w1 ⟨rfl,x⟩)
     | (at_mapUpdate;refine wpList_mapUpdate_own _ rfl _ _ _ 100 rfl 9 169 ziy Tryz.underlying100 (unitElem (H:=Unit)) w.heap.size k _ rfl (zds U x ac) (by unfold maxLen;omega) _ _ _ rfl rfl HK _ [] unitElem_mk ?_;intro w2 ad aa)
     | go_in)
    go_roundw
    case rel=>exact⟨k+1,by go_num,by omega,(by rw[J0 I,J0 HD,u];rfl),(by rw[Yq J,zmv];exact ad),(by have:=aa.size;have:=x.size;omega),(Y.trans (x.mono (by omega))).grown aa (by have:=x.size;omega) (fun j hj=>by cases hj;exact Y5 _)⟩
    case measure=>simp[intOf];omega
   ·have u:=(Yb _).mp u;rw[u]at t;go_wp2_with (first
     | (go_at_call 73;refine t.mono ?_;clear t;rintro e w1 ⟨rfl,x⟩)
     | go_in)
    go_ret;exact⟨by rw[zaj,J0 I,J0 HD,u];rfl,Y.trans (x.mono (by omega))⟩
  ·have ae:k=r.length:=by omega
   subst ae;have hO:=J0 U;rw[Yr]at hO;have HZ:ZH (zaj r=((Maps.size (setB r):Int)==(r.length:Int))):=by
    have hz:=(setB_size _ r rfl).1;show _=_;rw[zaj,J0 I,Yg (Y5 _),List.all_nil,XD];by_cases h:r.Nodup
    ·rw[Xi h,hz.2 h];simp
    ·rw[Ym h]
     symm
     rw[Y3];exact fun e=>h (hz.1 (by omega))
   go_wp2_with (first
    | (at_len;refine wpList_len_own _ rfl _ 100 rfl 9 169 Tryz.underlying100 _ w.heap.size r.length _ rfl hO ?_)
    | go_in)
   go_ret;exact⟨by rw[J0 HZ];rfl,G⟩
def JF (K:Int) (l:Bs) (n e q:Nat) (g c h:Bool):Bool:=
 if K≠4/\l.isEmpty=false then false
 else if K=1∨K=2∨K=3 then decide (n=0)&&decide (e=0)&&decide (q=0)
 else if K=4 then decide (n=0)&&decide (e=0)&&decide (q=0)&&g
 else if K=5 then decide (n=0)&&decide (e=0)&&decide (q=1)
 else if K=6 then decide (n=q)&&decide (e=q)&&c
 else if K=7 then decide (n=0)&&decide (e=0)&&decide (1<=q)
 else if K=8 then decide (n=q)&&decide (e=0)&&c&&h
 else false
theorem nb0 (a:Nat):((a:Int)==0)=decide (a=0):=by
 by_cases h:a=0
 ·subst h;rfl
 ·rw[Ym h,Y3];omega
theorem nb1 (a:Nat):((a:Int)==1)=decide (a=1):=by
 by_cases h:a=1
 ·subst h;rfl
 ·rw[Ym h,Y3];omega
theorem nle (a:Nat):decide ((1:Int)<=(a:Int))=decide (1<=a):=decide_eq_decide.2 (by omega)
theorem shaped_run (K:Int) (l:Bs) (n e q:Nat) (I J L:Bool) (pn pe pp:Zo) (cn ce cp:Nat) (w:Zw) (_hn:n<=1000000) (_he:e<=1000000) (_hq:q<=1000000)
  (M:∀W,ZB w W->ZC 73 #[Zi 2,.string ⟨l.toArray⟩] W (.bool I))
  (U:∀W m,m=n->ZB w W->ZC 117 #[.slice pn m cn] W (.bool J))
  (V:∀W m,m=q->ZB w W->ZC 122 #[.slice pp m cp] W (.bool L)) :
  Zg 79 #[.agg #[Zi K,.string ⟨l.toArray⟩,.slice pn n cn,.slice pe e ce,.slice pp q cp]] w fun x w'=>x=.returned (.bool (JF K l n e q I J L))/\ZB w w':=by
 have t:=J3 M;have u:=J3 U;have G:=J3 V;clear M U V;go_enter Tryz.func79,Tryz.ntmps79;go_wp2;go_quiet (fail);obtain⟨W0,g⟩:=Ze ((w.alloc (.cells #[Zi K,.string ⟨l.toArray⟩,.slice pn n cn,.slice pe e ce,.slice pp q cp] 31)).drewN nq)
 have r:ZB w W0:=by rw[g];exact Yw (Za _ _) _
 have aa:w.heap.size<W0.heap.size:=by rw[g];simp[World.drewN]
 have h:∀j,W0.cell? ⟨w.heap.size,j,none⟩=#[Zi K,.string ⟨l.toArray⟩,.slice pn n cn,.slice pe e ce,.slice pp q cp][j]?:=fun j=>by
  rw[g];show(w.alloc _).cell? _=_;rw[Ya _ _ _ _ (by rfl)]
 have Y:=h 0;have Z:=h 1;have c2:=h 2;have c4:=h 4;simp at Y Z c2 c4;rw[<-g];clear g h;have hk:K=1∨K=2∨K=3∨K=4∨K=5∨K=6∨K=7∨K=8∨(K≠1/\K≠2/\K≠3/\K≠4/\K≠5/\K≠6/\K≠7/\K≠8):=by omega
 have s:=J3 r;rcases hk with rfl|rfl|rfl|rfl|rfl|rfl|rfl|rfl|⟨k1,k2,k3,k4,k5,k6,k7,k8⟩
 all_goals
  go_wp2_with (first
   | (go_at_call 73;refine(t _ s).mono ?_;clear t;rintro x w1 ⟨rfl,c⟩)
   | (go_at_call 117;refine(u _ _ (by omega) s).mono ?_;clear u;rintro x w1 ⟨rfl,c⟩;have d4:=(c.cell (p:=⟨w.heap.size,4,none⟩) aa).trans c4)
   | (go_at_call 122;refine(G _ _ (by omega) (s.trans (c.mono (by omega)))).mono ?_;clear G;rintro x w2 ⟨rfl,ab⟩))
 any_goals
  go_ret;refine⟨congrArg (fun b=>Ending.returned (Value.bool b)) ?_,?_⟩
  rotate_left
  ·first|exact r|exact r.trans (c.mono (by omega))|exact(r.trans (c.mono (by omega))).trans (ab.mono (by have:=c.size;omega))
  try clear t
  try clear u
  try clear G
  clear s Y Z c2 c4
  first
   | (simp_all [JF,nb0,nb1,nle];done)
   | (by_cases z1:n=q <;> by_cases z2:e=q <;> first|(exfalso;omega)|(simp_all [JF];done))
def zb6 (d:Nat) (t:Ty (d+1)):Bool:=JF t.1 t.2.1 t.2.2.1.length t.2.2.2.1.length t.2.2.2.2.length (za3 2 t.2.1) (zaj t.2.2.1) (fnsB d t.2.2.2.2)
def TyVal (W:Zw) (d:Nat) (v:Value) (t:Ty (d+1)):Prop:=
 ∃(pn pe pp:Zo) (cn ce cp:Nat),v=.agg #[Zi t.1,.string ⟨t.2.1.toArray⟩,.slice pn t.2.2.1.length cn,.slice pe t.2.2.2.1.length ce,.slice pp t.2.2.2.2.length cp] /\
  SRow W (.slice pn t.2.2.1.length cn) t.2.2.1/\BRow W (.slice pe t.2.2.2.1.length ce) t.2.2.2.1/\TyRow W d (.slice pp t.2.2.2.2.length cp) t.2.2.2.2
theorem TyVal.below {w w':Zw} {d:Nat} {v:Value} {t:Ty (d+1)} (h:TyVal w d v t) (c:ZB w w'):TyVal w' d v t:=by
 obtain⟨pn,pe,pp,cn,ce,cp,rfl,g,j,r⟩:=h;exact⟨pn,pe,pp,cn,ce,cp,rfl,g.below c,j.below c,TyRow.below c d r⟩
def zht (d:Nat) (t:Ty (d+1)):Prop:=
 t.2.1.length<=35184372088832/\t.2.2.1.length<=1000000/\(∀s∈t.2.2.1,s.length<=35184372088832)/\t.2.2.2.1.length<=1000000/\t.2.2.2.2.length<=1000000
def za5:(d:Nat)->List (Ty d)->Prop
 | 0,_=>True
 | d+1,c=>c.length<=1000000/\∀t∈c,zht d t/\za5 d t.2.2.2.2
theorem shapedType_any (d:Nat) (v:Value) (t:Ty (d+1)) (w:Zw) (r:TyVal w d v t) (s:zht d t) (g:Tab w) (h:4<=w.heap.size) :
  ZC 79 #[v] w (.bool (zb6 d t)):=by
 obtain⟨pn,pe,pp,cn,ce,cp,rfl,u,J,x⟩:=r;obtain⟨s1,s2,G,I,j⟩:=s;exact shaped_run t.1 t.2.1 _ _ _ _ _ _ pn pe pp cn ce cp w s2 I j (fun W c=>zcb 2 _ W s1 (g.below c h) (by have:=c.size;omega))
  (fun W m hm c=>hm ▸ zep _ _ W (u.below c) s2 G (g.below c h) (by have:=c.size;omega))
  (fun W m hm c=>hm ▸ functions_any d _ _ W (TyRow.below c d x) j)
def Ju:(d:Nat)->Int->List (Ty d)->Bool
 | 0,_,_=>true
 | d+1,room,c=>c.all fun t=>decide (0<room)&&zb6 d t&&Ju d (room-1) t.2.2.2.2
def ze8 (d:Nat) (room:Int) (t:Ty (d+1)):Bool:=decide (0<room)&&zb6 d t&&Ju d (room-1) t.2.2.2.2
theorem zkr {d:Nat} {room:Int} {c:List (Ty (d+1))} {k:Nat} (h:k<c.length):Ju (d+1) room (c.drop k)=(ze8 d room c[k]&&Ju (d+1) room (c.drop (k+1))):=by
 rw[Yt h,Ju,Ju,YL];rfl
def RightsAt (d:Nat):Prop:=∀(v:Value) (c:List (Ty d)) (room:Int) (w:Zw),TyRow w d v c->za5 d c->0<=room->room<=1000000->Tab w->4<=w.heap.size ->
 ZC 80 #[v,Zi room] w (.bool (Ju d room c))
theorem zg0 (d:Nat) (Y:RightsAt d) (v:Value) (t:Ty (d+1)) (room:Int) (w:Zw) (I:TyVal w d v t) (Z:zht d t) (J:za5 d t.2.2.2.2) (h0:0<=room) (h1:room<=1000000) (s:Tab w) (L:4<=w.heap.size) :
  ZC 49 #[v,Zi room] w (.bool (ze8 d room t)):=by
 have h:ZH (∀W,ZB w W->ZC 79 #[v] W (.bool (zb6 d t))):=fun W g=>shapedType_any d v t W (I.below g) Z (s.below g L) (by have:=g.size;omega)
 obtain⟨pn,pe,pp,cn,ce,cp,rfl,r1,r2,M⟩:=I;have u:ZH (∀W,0<room->ZB w W->ZC 80 #[.slice pp t.2.2.2.2.length cp,Zi (room-1)] W (.bool (Ju d (room-1) t.2.2.2.2))):=fun W aa g=>Y _ _ _ W (TyRow.below g d M) J (by omega) (by omega) (s.below g L) (by have:=g.size;omega)
 clear r1 r2 M J s;obtain⟨U,c⟩:∃b,b=zb6 d t:=⟨_,rfl⟩
 obtain⟨b2,j⟩:∃b,b=Ju d (room-1) t.2.2.2.2:=⟨_,rfl⟩
 have G:ZH (ze8 d room t=(decide (0<room)&&U&&b2)):=by rw[c,j];rfl
 rw[<-c]at h;rw[<-j]at u;clear c j;go_enter Tryz.func49,Tryz.ntmps49;by_cases V:0<room
 ·cases U
  ·go_wp2_with (go_at_call 79;refine(h _ (Za _ _)).mono ?_;clear h;rintro x w1 ⟨rfl,c⟩;have d4:w1.cell? ⟨w.heap.size,4,none⟩=some (.slice pp t.2.2.2.2.length cp):=((c.cell (p:=⟨w.heap.size,4,none⟩) (by simp)).trans (by rw[Ya _ _ _ _ (by rfl)];rfl));have r:ZB w w1:=(Za _ _).trans (c.mono (by simp)));go_ret;exact⟨by rw[J0 G];simp,r⟩
  ·go_wp2_with (first|(go_at_call 79;refine(h _ (Za _ _)).mono ?_;clear h;rintro x w1 ⟨rfl,c⟩;have d4:w1.cell? ⟨w.heap.size,4,none⟩=some (.slice pp t.2.2.2.2.length cp):=((c.cell (p:=⟨w.heap.size,4,none⟩) (by simp)).trans (by rw[Ya _ _ _ _ (by rfl)];rfl));have r:ZB w w1:=(Za _ _).trans (c.mono (by simp)))|(go_at_call 80;refine(u _ V r).mono ?_;clear u;rintro x w2 ⟨rfl,j⟩));go_ret;exact⟨by rw[J0 G,Xi V];rfl,r.trans (j.mono (by have:=r.size;omega))⟩
 ·go_wp2;go_ret;exact⟨by rw[J0 G,Ym (by omega)];rfl,Za _ _⟩
theorem zkz (p:Zo) (c:Nat) (room:Int) (w:Zw):ZC 80 #[.slice p 0 c,Zi room] w (.bool true):=by
 go_enter Tryz.func80,Tryz.ntmps80;go_wp2
 go_loopw [9] (fun i wr=>i=Zi 0/\wr=w) (fun _ _=>0)
 case atStart=>exact⟨rfl,rfl⟩
 case round=>
  obtain⟨rfl,rfl⟩:=hrel;go_wp2;go_ret;exact⟨rfl,Zr⟩
theorem zbo:∀d,RightsAt d
 | 0=>fun v h room w I _ _ _ _ _=>by
  obtain⟨p,c,rfl⟩:=I;exact zkz p c room w
 | d+1=>fun v h room w I J h0 h1 Z h5=>by
  have IH:=J3 (zbo d);obtain⟨p,c,rfl,hp⟩:=I;have hlen:=J.1;have HP:=J3 hp;have HF:=J3 J.2;have HT:=J3 Z;clear hp J Z;go_enter Tryz.func80,Tryz.ntmps80;go_wp2
  go_loopw [9] (fun i wr=>∃k:Nat,i=Zi k/\k<=h.length/\ZH (Ju (d+1) room h=Ju (d+1) room (h.drop k))/\ZB w wr) (fun i _=>h.length-(intOf i).toNat)
  case atStart=>exact⟨0,rfl,by omega,rfl,Zr⟩
  case round=>
   obtain⟨k,rfl,hk,L,j⟩:=hrel;by_cases aa:k<h.length
   ·obtain⟨g,o,vn,ve,vp,rfl,a0,a1,a2,a3,a4,r1,r2,r⟩:=HP k h[k] (by simp[aa]);have ab:(k:Int)<(h.length:Int):=by omega
    obtain⟨q1,q2⟩:=HF h[k] (by simp);have TV:ZH (∃u,TyVal w d u h[k]/\u=.agg #[Zi h[k].1,.string ⟨h[k].2.1.toArray⟩,vn,ve,vp]):=by
     obtain⟨pn,cn,rfl,x1⟩:=r1;obtain⟨pe,ce,rfl,x2⟩:=r2;obtain⟨pp,cp,M⟩:=r.slice;subst M;exact⟨_,⟨pn,pe,pp,cn,ce,cp,rfl,⟨pn,cn,rfl,x1⟩,⟨pe,ce,rfl,x2⟩,r⟩,rfl⟩
    obtain⟨pn,cn,rfl,_⟩:=r1;obtain⟨pe,ce,rfl,_⟩:=r2;obtain⟨pp,cp,M⟩:=r.slice;subst M;have hg:=J2 a0;have b0:=Zq j a0;have b1:=Zq j a1;have b2:=Zq j a2;have b3:=Zq j a3;have b4:=Zq j a4;have s:=J3 j;have U:=J3 (zkr (room:=room) aa);have t:=j.size;obtain⟨z,hz⟩:=Ze (ze8 d room h[k])
    have G:ZH (∀W,ZB w W->ZC 49 #[.agg #[Zi h[k].1,.string ⟨h[k].2.1.toArray⟩,.slice pn h[k].2.2.1.length cn,.slice pe h[k].2.2.2.1.length ce,.slice pp h[k].2.2.2.2.length cp],Zi room] W (.bool z)):=fun W V=>by
     obtain⟨u,hu,e⟩:=J0 TV;rw[hz,<-e];exact zg0 d IH u h[k] room W (hu.below V) q1 q2 (by omega) h1 (HT.below V h5) (by have:=V.size;omega)
    rw[<-hz]at U;clear a0 a1 a2 a3 a4 r j TV q1 q2 hz
    cases z
    ·go_wp2_with (go_at_call 49;refine(G _ (s.alloc t _)).mono ?_;clear G;rintro x w1 ⟨rfl,Y⟩);go_ret;exact⟨by rw[J0 L,J0 U];rfl,(s.alloc t _).trans (Y.mono (by simp;omega))⟩
    ·go_wp2_with (go_at_call 49;refine(G _ (s.alloc t _)).mono ?_;clear G;rintro x w1 ⟨rfl,Y⟩);go_roundw
     case rel=>exact⟨k+1,by go_num,by omega,(by rw[J0 L,J0 U];rfl),(s.alloc t _).trans (Y.mono (by simp;omega))⟩
     case measure=>simp[intOf];omega
   ·go_wp2;go_ret;exact⟨by rw[J0 L,Yg (by omega)];rfl,j⟩
end Go.Proofs.YtdcbglnhhbmpgaaGreatDoor
namespace Go.Proofs.YtdcbglnhhbmpgaaGreatDoor
open Go Go.RowKit Lx
def putT (c:List Tok) (t:Tok):List Tok:=if c.length<32769 then c++[t]else c
def WrAt (base b:Nat) (T:TypeId) (c:List Tok) (W:Zw):Prop:=
 base<=b/\T≠112/\∃v,Boxed W b T v/\W.ownsRow base 112 4 v c.length (zbt c)
def Stay (b:Nat) (W W':Zw):Prop:=W.heap.size<=W'.heap.size/\∀k o,W.heap[k]?=some o->k≠b->(∀c g,o≠.cells c 112 g)->W'.heap[k]?=some o
theorem Stay.refl (b:Nat) (W:Zw):Stay b W W:=⟨Y5 _,fun _ _ h _ _=>h⟩
theorem Stay.trans {b:Nat} {U V W:Zw} (h:Stay b U V) (k:Stay b V W):Stay b U W:=⟨Yh h.1 k.1,fun j o r c g=>k.2 j o (h.2 j o r c g) c g⟩
theorem Stay.of_below {b:Nat} {W W':Zw} (h:ZB W W'):Stay b W W':=⟨h.size,fun k _ c _ _=>(h.block k (Y8.1 c).1).trans c⟩
theorem not_tok {W:Zw} {base size n k:Nat} {v:Value} {xs:List Value} {o:Obj} (h:W.ownsRow base 112 size v n xs) (r:W.heap[k]?=some o) (s:∀c t,o≠.cells c 112 t):some k≠v.ownBlock:=by
 rcases h.2 with⟨rfl,_⟩|⟨g,cap,cur,rfl,_,j,_⟩
 ·simp[Value.ownBlock]
 ·intro e;obtain rfl:k=g:=by simpa[Value.ownBlock]using e
  rw[r]at j;exact s _ _ (by simpa using j)
theorem zac {P:Program} {ops:Array Oper} {o:Oper} {a:Act} {w:Zw} {K:Act->Zw->Prop} {Q:Exit->Act->Zw->Prop} {E:Prop} (g:o.guard=none) (s x:Operand) (t:TypeId) (j:o.op=.call { callee:=.builtin .append,args:=#[s,x],argTypes:=#[t,t] })
  {v u c:Value} {w':Zw} (r:a.eval s=v) (G:a.eval x=u) (I:(Builtin.append_ #[t,t] o.type #[v,u]).run P w=.ok c w') (h:K (a.put o.dst c) w'):if Region.wanted o (yielded ops a.tmps)=true then Oper.wp P o a w K Q else E:=by
 rw[Ye (by simp[Region.wanted,g])];unfold Oper.wp;simp[execOp,j,resolve,invoke,builtin,r,G,I,Result.andThen];exact h
theorem zj9 (base b:Nat) (T:TypeId) (r:List Tok) (t:Tok) (w:Zw) (h:WrAt base b T r w) (hl:r.length<=1000000) :
  Zg 103 #[.pointer (Zs b 0),.agg #[Zi (t.1:Int),Zi t.2.1,.string ⟨t.2.2.1.toArray⟩,Zi t.2.2.2]] w fun e w'=>e=.returned (.tuple #[])/\WrAt base b T (putT r t) w'/\Below base w w'/\Stay b w w':=by
 obtain⟨L,M,v,I,G⟩:=h;have hc:=I.cell;have ao:=I.lt;obtain⟨i0,hi,ai,aj,ak⟩:=Xx info_tok;obtain⟨p,c,rfl⟩:∃p c,v=.slice p r.length c:=by
  rcases G.2 with⟨rfl,e⟩|⟨g,cap,cur,rfl,_⟩
  ·exact⟨none,0,by rw[e]⟩
  ·exact⟨_,_,rfl⟩
 by_cases ab:r.length<32769
 ·have al:(r.length:Int)<32769:=by omega
  have U:ZH (putT r t=r++[t]):=by show _=_;rw[putT,Ye ab]
  obtain⟨O,hO⟩:=Ze (.cells #[Zi (t.1:Int),Zi t.2.1,.string ⟨t.2.2.1.toArray⟩,Zi t.2.2.2] 112:Obj)
  have J:∀j,((w.alloc O).alloc O).drew.cell? ⟨w.heap.size+1,j,none⟩=#[Zi (t.1:Int),Zi t.2.1,.string ⟨t.2.2.1.toArray⟩,Zi t.2.2.2][j]?:=fun j=>by
   show((w.alloc O).alloc O).cell? _=_;rw[hO,Ya _ _ _ _ (by simp)]
  have ac:((w.alloc O).alloc O).drew.ownsRow base 112 4 (.slice p r.length c) r.length (zbt r):=((G.alloc O).alloc O).drew;obtain⟨v',W',E,V,x,_⟩:=run_append_own (P:=Tryz.prog) ((w.alloc O).alloc O).drew base 74 74 112 i0 (.agg #[Zi 0,Zi 0,.string ⟨#[]⟩,Zi 0]) 4 40 Tryz.underlying74 hi ai aj ak rfl (by decide) _ _ _ ac ⟨w.heap.size+1,0,none⟩ 1 1 (za0 t) rfl
   (fun j u s=>by
    rw[YT]
    match j,s with
    | 0,s=>simp[za0]at s;subst s;exact J 0
    | 1,s=>simp[za0]at s;subst s;exact J 1
    | 2,s=>simp[za0]at s;subst s;exact J 2
    | 3,s=>simp[za0]at s;subst s;exact J 3
    | j+4,s=>simp[za0]at s)
   (by intro u hu;simp[za0]at hu;rcases hu with rfl|rfl|rfl|rfl <;> rfl) (by unfold maxLen;omega) (by omega) (by show base<=((w.alloc O).alloc O).heap.size;simp;omega)
  obtain⟨Y,Z,rfl⟩:=ownsRow_succ V;obtain⟨aa,ad,ae,am,af⟩:=(I.alloc O).appended M (G.alloc O) (by simp;omega) L (tmp:=O) V ⟨x.os,x.tape,x.output,x.size,x.block⟩;have ap:=aa.cell;have aq:=aa.frozen;have ag:Below base w (W'.setCell ⟨b,0,none⟩ (.slice (Zs Y 0) (r.length+1) Z)):=((Yu _ _).alloc (by omega) O).trans af;have HW:ZH (WrAt base b T (r++[t]) (W'.setCell ⟨b,0,none⟩ (.slice (Zs Y 0) (r.length+1) Z))):=⟨L,M,_,ad,by rw[zie];simpa using ae⟩
  have ah:Stay b w (W'.setCell ⟨b,0,none⟩ (.slice (Zs Y 0) (r.length+1) Z)):=by
   refine⟨by have:=x.size;simp[World.drew]at this ⊢;omega,fun k o hk hn ho=>?_⟩;have an:=(Y8.1 hk).1;refine(XC _ _ _ _ hn).trans ((x.block k (by show k<((w.alloc O).alloc O).heap.size;simp;omega) (not_tok G hk ho)).trans ?_);exact(heap_old2 _ _ _ an).trans hk
  have HX:=J3 (And.intro ag ah);clear aa ad ae am af V x ac J ag ah I G;subst hO;go_enter Tryz.func103,Tryz.ntmps103;go_wp2_with fail
  go_region_law (refine zac rfl (.tmp 14) (.tmp 16) 74 rfl (by simp[Act.eval]) (by simp[Act.eval]) E ?_)
  all_goals
   go_wp2_with fail;exact Yd (v:=.tuple #[]) (by simp[results,Tryz.results103,go_sem]) rfl ⟨rfl,(by rw[J0 U];exact HW),HX⟩
 ·have al:¬(r.length:Int)<32769:=by omega
  have U:ZH (putT r t=r):=by show _=_;rw[putT,Y7 ab]
  have HV:=J3 I;have HR:=J3 G;clear I G;go_enter Tryz.func103,Tryz.ntmps103;go_wp2;exact Yd (v:=.tuple #[]) (by simp[results,Tryz.results103,go_sem]) rfl ⟨rfl,(by rw[J0 U];exact⟨L,M,_,HV.alloc _,HR.alloc _⟩),(Yu _ _).alloc (by omega) _,.of_below (Za _ _)⟩
theorem wWord_any (base b:Nat) (T:TypeId) (c:List Tok) (s:Bs) (w:Zw) (h:WrAt base b T c w) (j:c.length<=1000000) :
  Zg 65 #[.pointer (Zs b 0),.string ⟨s.toArray⟩] w fun e w'=>e=.returned (.tuple #[])/\WrAt base b T (putT c (0,3,s,0)) w'/\Below base w w'/\Stay b w w':=by
 have g:=J3 (zj9 base b T c (0,3,s,0) w h j);dsimp only at g;clear h;go_enter Tryz.func65,Tryz.ntmps65;go_wp2_with (go_at_call 103;refine g.mono ?_;clear g;rintro e w1 ⟨rfl,r,t,u⟩);exact Yd (v:=.tuple #[]) (by simp[results,Tryz.results65,go_sem]) rfl ⟨rfl,r,t,u⟩
theorem zcs (base b:Nat) (T:TypeId) (c:List Tok) (s:Bs) (w:Zw) (h:WrAt base b T c w) (j:c.length<=1000000) :
  Zg 67 #[.pointer (Zs b 0),.string ⟨s.toArray⟩] w fun e w'=>e=.returned (.tuple #[])/\WrAt base b T (putT c (0,6,s,0)) w'/\Below base w w'/\Stay b w w':=by
 have g:=J3 (zj9 base b T c (0,6,s,0) w h j);dsimp only at g;clear h;go_enter Tryz.func67,Tryz.ntmps67;go_wp2_with (go_at_call 103;refine g.mono ?_;clear g;rintro e w1 ⟨rfl,r,t,u⟩);exact Yd (v:=.tuple #[]) (by simp[results,Tryz.results67,go_sem]) rfl ⟨rfl,r,t,u⟩
theorem zi7 (base b:Nat) (T:TypeId) (c:List Tok) (s:Bs) (w:Zw) (h:WrAt base b T c w) (j:c.length<=1000000) :
  Zg 75 #[.pointer (Zs b 0),.string ⟨s.toArray⟩] w fun e w'=>e=.returned (.tuple #[])/\WrAt base b T (putT c (0,1,s,0)) w'/\Below base w w'/\Stay b w w':=by
 have g:=J3 (zj9 base b T c (0,1,s,0) w h j);dsimp only at g;clear h;go_enter Tryz.func75,Tryz.ntmps75;go_wp2_with (go_at_call 103;refine g.mono ?_;clear g;rintro e w1 ⟨rfl,r,t,u⟩);exact Yd (v:=.tuple #[]) (by simp[results,Tryz.results75,go_sem]) rfl ⟨rfl,r,t,u⟩
theorem wTypeName_any (base b:Nat) (T:TypeId) (c:List Tok) (s:Bs) (w:Zw) (h:WrAt base b T c w) (j:c.length<=1000000) :
  Zg 66 #[.pointer (Zs b 0),.string ⟨s.toArray⟩] w fun e w'=>e=.returned (.tuple #[])/\WrAt base b T (putT c (0,2,s,0)) w'/\Below base w w'/\Stay b w w':=by
 have g:=J3 (zj9 base b T c (0,2,s,0) w h j);dsimp only at g;clear h;go_enter Tryz.func66,Tryz.ntmps66;go_wp2_with (go_at_call 103;refine g.mono ?_;clear g;rintro e w1 ⟨rfl,r,t,u⟩);exact Yd (v:=.tuple #[]) (by simp[results,Tryz.results66,go_sem]) rfl ⟨rfl,r,t,u⟩
theorem wQuoted_any (base b:Nat) (T:TypeId) (c:List Tok) (s:Bs) (w:Zw) (h:WrAt base b T c w) (j:c.length<=1000000) :
  Zg 134 #[.pointer (Zs b 0),.string ⟨s.toArray⟩] w fun e w'=>e=.returned (.tuple #[])/\WrAt base b T (putT c (0,5,s,0)) w'/\Below base w w'/\Stay b w w':=by
 have g:=J3 (zj9 base b T c (0,5,s,0) w h j);dsimp only at g;clear h;go_enter Tryz.func134,Tryz.ntmps134;go_wp2_with (go_at_call 103;refine g.mono ?_;clear g;rintro e w1 ⟨rfl,r,t,u⟩);exact Yd (v:=.tuple #[]) (by simp[results,Tryz.results134,go_sem]) rfl ⟨rfl,r,t,u⟩
theorem wNumber_any (base b:Nat) (T:TypeId) (c:List Tok) (n:Int) (w:Zw) (h:WrAt base b T c w) (j:c.length<=1000000) :
  Zg 133 #[.pointer (Zs b 0),Zi n] w fun e w'=>e=.returned (.tuple #[])/\WrAt base b T (putT c (0,4,[],n)) w'/\Below base w w'/\Stay b w w':=by
 have g:=J3 (zj9 base b T c (0,4,[],n) w h j);dsimp only at g;clear h;go_enter Tryz.func133,Tryz.ntmps133;go_wp2_with (go_at_call 103;refine g.mono ?_;clear g;rintro e w1 ⟨rfl,r,s,t⟩);exact Yd (v:=.tuple #[]) (by simp[results,Tryz.results133,go_sem]) rfl ⟨rfl,r,s,t⟩
def tW (s:Bs):Tok:=(0,3,s,0)
def tS (s:Bs):Tok:=(0,6,s,0)
def tN (s:Bs):Tok:=(0,1,s,0)
def tT (s:Bs):Tok:=(0,2,s,0)
def Jc (c l:List Tok):List Tok:=l.foldl putT c
theorem J8 (c l m:List Tok):Jc c (l++m)=Jc (Jc c l) m:=by rw[Jc,List.foldl_append];rfl
theorem Jq (c l:List Tok) (t:Tok):Jc c (t::l)=Jc (putT c t) l:=rfl
theorem JE (c:List Tok):Jc c []=c:=rfl
def Jf:(d:Nat)->Bool->Ty d->List Tok
 | 0,_,t=>nomatch t
 | d+1,c,t=>
  let part (i:Nat) (s:Bool):List Tok:=((t.2.2.2.2)[i]?.map (Jf d s)).getD []
  let sig:List Tok:=tS [40]::((List.range (t.2.2.2.2.length-1)).flatMap fun i=>(if 0<i then[tS [44]]else[])++part i false)++tS [41]::part (t.2.2.2.2.length-1) false
  if c=true then sig
  else if t.1=1 then[tW [105,110,116]]
  else if t.1=2 then[tW [98,111,111,108]]
  else if t.1=3 then[tW [116,101,120,116]]
  else if t.1=4 then[tT t.2.1]
  else if t.1=5 then tS [42]::part 0 false
  else if t.1=6 then tS [123]::((List.range t.2.2.1.length).flatMap fun i=>(if t.2.2.2.1.getD i false=true then[tW [101,109,98,101,100]]else[])++tN (t.2.2.1.getD i [])::part i false++[tS [59]])++[tS [125]]
  else if t.1=7 then tW [102,110]::sig
  else if t.1=8 then tW [105,110,116,101,114,102,97,99,101]::tS [123]::((List.range t.2.2.1.length).flatMap fun i=>tN (t.2.2.1.getD i [])::part i true++[tS [59]])++[tS [125]]
  else[]
theorem zbk {c:List Tok} (t:Tok) (h:c.length<=32769):(putT c t).length<=32769:=by
 unfold putT;split
 ·simp;omega
 ·exact h
theorem zah:∀(l c:List Tok),c.length<=32769->(Jc c l).length<=32769
 | [],_,h=>h
 | t::l,_,h=>zah l _ (zbk t h)
def zm6 (nm:Nat->Bs) (em:Nat->Bool) (tk:Nat->List Tok) (i:Nat):List Tok:=(if em i=true then[tW [101,109,98,101,100]]else[])++tN (nm i)::(tk i++[tS [59]])
theorem zl5 (c:List Tok) (f:Nat->List Tok) (k:Nat):Jc c ((List.range (k+1)).flatMap f)=Jc (Jc c ((List.range k).flatMap f)) (f k):=by
 rw[YA,YO,J8,List.flatMap_singleton]
theorem fields_run (w0:Zw) (b:Nat) (T:TypeId) (r:List Tok) (K:Int) (l:Zy) (q:Nat) (pn pe pp:Zo) (cn ce cp:Nat) (w:Zw) (nm:Nat->Bs) (em:Nat->Bool) (tk:Nat->List Tok)
  (hw:WrAt w0.heap.size b T r w) (aJ:r.length<=32769) (au:ZB w0 w) (a':q<=1000000)
  (aK:∀k,k<q->∃g o,pn=some ⟨g,o,none⟩/\w0.cell? ⟨g,o+k,none⟩=some (.string ⟨(nm k).toArray⟩))
  (aL:∀k,k<q->∃g o,pe=some ⟨g,o,none⟩/\w0.cell? ⟨g,o+k,none⟩=some (.bool (em k)))
  (aM:∀k,k<q->∃(g o:Nat) (ae:Int) (af:Zy) (ag ah ai:Zo) (aj ak al am an c3:Nat),pp=some ⟨g,o,none⟩/\w0.cell? ⟨g,o+k*5,none⟩=some (Zi ae)/\w0.cell? ⟨g,o+k*5+1,none⟩=some (.string af) /\
   w0.cell? ⟨g,o+k*5+2,none⟩=some (.slice ag aj am)/\w0.cell? ⟨g,o+k*5+3,none⟩=some (.slice ah ak an)/\w0.cell? ⟨g,o+k*5+4,none⟩=some (.slice ai al c3) /\
   ∀av W,WrAt w0.heap.size b T av W->av.length<=32769->ZB w0 W->Zg 50 #[.pointer (Zs b 0),.agg #[Zi ae,.string af,.slice ag aj am,.slice ah ak an,.slice ai al c3]] W fun e w'=>e=.returned (.tuple #[])/\WrAt w0.heap.size b T (Jc av (tk k)) w'/\Below w0.heap.size W w'/\Stay b W w') :
  Zg 83 #[.pointer (Zs b 0),.agg #[Zi K,.string l,.slice pn q cn,.slice pe q ce,.slice pp q cp]] w fun e w'=>e=.returned (.tuple #[])/\WrAt w0.heap.size b T (Jc r ((List.range q).flatMap (zm6 nm em tk))) w'/\Below w0.heap.size w w'/\Stay b w w':=by
 obtain⟨O,ao⟩:=Ze (.cells #[Zi K,.string l,.slice pn q cn,.slice pe q ce,.slice pp q cp] 31:Obj)
 have ba:b<w.heap.size:=by obtain⟨_,_,v,h,_⟩:=hw;exact h.lt
 have s:w.heap.size≠b:=by omega
 have aw:ZH (∀W:Zw,W.heap[w.heap.size]?=some O->W.cell? ⟨w.heap.size,3,none⟩=some (.slice pe q ce)/\W.cell? ⟨w.heap.size,4,none⟩=some (.slice pp q cp)):=fun W h=>by
  rw[ao]at h;exact⟨by rw[Y0 h];rfl,by rw[Y0 h];rfl⟩
 have aN:=J3 (Jm w O);have t:ZH (∀c ax,O≠.cells c 112 ax):=by show ∀c ax,_;rw[ao];intro c ax e;injection e with _ e _;exact absurd e (by decide)
 have aO:ZH (WrAt w0.heap.size b T r (w.alloc O)):=by obtain⟨j,ap,v,a1,a5⟩:=hw;exact⟨j,ap,v,a1.alloc O,a5.alloc O⟩
 have aP:=J3 aK;have aQ:=J3 aL;have aR:=J3 aM;have a6:=J3 au;have a7:=au.size;clear aK aL aM hw au;go_enter Tryz.func83,Tryz.ntmps83;go_wp2;rw[<-ao];clear ao
 go_loopw [9] (fun i wr=>∃k:Nat,i=Zi k/\k<=q/\ZH (WrAt w0.heap.size b T (Jc r ((List.range k).flatMap (zm6 nm em tk))) wr)/\ZH (Below w0.heap.size w wr)/\ZH (Stay b w wr)/\ZH (wr.heap[w.heap.size]?=some O)) (fun i _=>q-(intOf i).toNat)
 case atStart=>exact⟨0,rfl,by omega,aO,(Yu _ _).alloc a7 O,.of_below ((Yu _ _).alloc (Y5 _) O),aN⟩
 case round=>
  obtain⟨k,rfl,bb,aq,ar,ay,HOr⟩:=hrel;by_cases az:k<q
  ·have bc:(k:Int)<(q:Int):=by omega
   obtain⟨aS,on,rfl,aA⟩:=aP k az;obtain⟨ge,aT,rfl,aB⟩:=aQ k az;obtain⟨u,op,ae,af,ag,ah,ai,aj,ak,al,am,an,c3,rfl,a0,aC,a2,a3,a4,wt⟩:=aR k az;have aU:=J3 wt;have I:=J3 (zl5 r (zm6 nm em tk) k);have J:(Jc r ((List.range k).flatMap (zm6 nm em tk))).length<=32769:=zah _ _ aJ;obtain⟨be,aV⟩:∃x,x=Jc r ((List.range k).flatMap (zm6 nm em tk)):=⟨_,rfl⟩
   rw[<-aV]at aq I J;have aD:=a6.trans ar;have FF:ZH (∀W:Zw,ZB w0 W->W.heap[w.heap.size]?=some O->W.cell? ⟨w.heap.size,3,none⟩=some (.slice (Zs ge aT) q ce)/\W.cell? ⟨w.heap.size,4,none⟩=some (.slice (Zs u op) q cp)/\W.cell? ⟨aS,on+k,none⟩=some (.string ⟨(nm k).toArray⟩)/\W.cell? ⟨ge,aT+k,none⟩=some (.bool (em k)) /\
     ZK5 W u (op+k*5) (Zi ae) (.string af) (.slice ag aj am) (.slice ah ak an) (.slice ai al c3)):=fun W j ap=>
    ⟨(aw W ap).1,(aw W ap).2,(j.cell (p:=⟨aS,_,none⟩) (J2 aA)).trans aA,(j.cell (p:=⟨ge,_,none⟩) (J2 aB)).trans aB,(j.cell (p:=⟨u,_,none⟩) (J2 a0)).trans a0,(j.cell (p:=⟨u,_,none⟩) (J2 aC)).trans aC,(j.cell (p:=⟨u,_,none⟩) (J2 a2)).trans a2,(j.cell (p:=⟨u,_,none⟩) (J2 a3)).trans a3,(j.cell (p:=⟨u,_,none⟩) (J2 a4)).trans a4⟩
   clear aA aB a0 aC a2 a3 a4 wt aV aJ aO aN aP aQ aR aw;obtain⟨m0,m1,m2,m3,m4,m5,m6,m7,m8⟩:=FF wr aD HOr;rw[zm6]at I;by_cases he:em k=true
   ·rw[he]at m3 FF;rw[Ye he,J8,Jq,J8,Jq,JE,Jq,JE]at I;go_wp2_with (first
     | (go_at_call 65;refine(wWord_any w0.heap.size b T _ [101,109,98,101,100] _ aq (by omega)).mono ?_;rintro x a8 ⟨rfl,a9,aW,aX⟩;have aY:=(aD).trans aW;have aZ:=aX.2 _ _ HOr s t;obtain⟨m0,m1,m2,m3,m4,m5,m6,m7,m8⟩:=FF a8 aY aZ)
     | (go_at_call 75;refine(zi7 w0.heap.size b T _ (nm k) _ a9 (Yh (zbk _ J) (by omega))).mono ?_;rintro x aE ⟨rfl,aF,L,M⟩;have G:=(aY).trans L;have U:=M.2 _ _ aZ s t;obtain⟨m0,m1,m2,m3,m4,m5,m6,m7,m8⟩:=FF aE G U)
     | (go_at_call 50;refine(aU _ _ aF (zbk _ (zbk _ J)) G).mono ?_;rintro x wc ⟨rfl,aG,V,Y⟩;have Z:=(G).trans V;have aa:=Y.2 _ _ U s t;obtain⟨m0,m1,m2,m3,m4,m5,m6,m7,m8⟩:=FF wc Z aa)
     | (go_at_call 67;refine(zcs w0.heap.size b T _ [59] _ aG (Yh (zah _ _ (zbk _ (zbk _ J))) (by omega))).mono ?_;rintro x wd ⟨rfl,aH,ab,ac⟩;have aI:=(Z).trans ab;have ad:=ac.2 _ _ aa s t;obtain⟨m0,m1,m2,m3,m4,m5,m6,m7,m8⟩:=FF wd aI ad))
    go_roundw
    case rel=>exact⟨k+1,by go_num,by omega,(by rw[J0 I];exact aH),ar.trans (aW.trans (L.trans (V.trans ab))),ay.trans (aX.trans (M.trans (Y.trans ac))),ad⟩
    case measure=>simp[intOf];omega
   ·have he:=(Yb _).mp he;rw[he]at m3 FF;rw[Y7 (by rw[he];simp),Xc,Jq,J8,Jq,JE]at I;go_wp2_with (first
     | (go_at_call 75;refine(zi7 w0.heap.size b T _ (nm k) _ aq (by omega)).mono ?_;rintro x aE ⟨rfl,aF,L,M⟩;have G:=(aD).trans L;have U:=M.2 _ _ HOr s t;obtain⟨m0,m1,m2,m3,m4,m5,m6,m7,m8⟩:=FF aE G U)
     | (go_at_call 50;refine(aU _ _ aF (zbk _ J) G).mono ?_;rintro x wc ⟨rfl,aG,V,Y⟩;have Z:=(G).trans V;have aa:=Y.2 _ _ U s t;obtain⟨m0,m1,m2,m3,m4,m5,m6,m7,m8⟩:=FF wc Z aa)
     | (go_at_call 67;refine(zcs w0.heap.size b T _ [59] _ aG (Yh (zah _ _ (zbk _ J)) (by omega))).mono ?_;rintro x wd ⟨rfl,aH,ab,ac⟩;have aI:=(Z).trans ab;have ad:=ac.2 _ _ aa s t;obtain⟨m0,m1,m2,m3,m4,m5,m6,m7,m8⟩:=FF wd aI ad))
    go_roundw
    case rel=>exact⟨k+1,by go_num,by omega,(by rw[J0 I];exact aH),ar.trans (L.trans (V.trans ab)),ay.trans (M.trans (Y.trans ac)),ad⟩
    case measure=>simp[intOf];omega
  ·obtain rfl:k=q:=by omega
   go_wp2;exact Yd (v:=.tuple #[]) (by simp[results,Tryz.results83,go_sem]) rfl ⟨rfl,aq,ar,ay⟩
def zhn (nm:Nat->Bs) (tk:Nat->List Tok) (i:Nat):List Tok:=tN (nm i)::(tk i++[tS [59]])
theorem methods_run (w0:Zw) (b:Nat) (T:TypeId) (j:List Tok) (K:Int) (l:Zy) (q e:Nat) (pn pe pp:Zo) (cn ce cp:Nat) (w:Zw) (nm:Nat->Bs) (tk:Nat->List Tok)
  (hw:WrAt w0.heap.size b T j w) (an:j.length<=32769) (ab:ZB w0 w) (aW:q<=1000000)
  (ao:∀k,k<q->∃g o,pn=some ⟨g,o,none⟩/\w0.cell? ⟨g,o+k,none⟩=some (.string ⟨(nm k).toArray⟩))
  (ap:∀k,k<q->∃(g o:Nat) (t:Int) (u:Zy) (G I J:Zo) (L M U V Y c3:Nat),pp=some ⟨g,o,none⟩/\w0.cell? ⟨g,o+k*5,none⟩=some (Zi t)/\w0.cell? ⟨g,o+k*5+1,none⟩=some (.string u) /\
   w0.cell? ⟨g,o+k*5+2,none⟩=some (.slice G L V)/\w0.cell? ⟨g,o+k*5+3,none⟩=some (.slice I M Y)/\w0.cell? ⟨g,o+k*5+4,none⟩=some (.slice J U c3) /\
   ∀ac W,WrAt w0.heap.size b T ac W->ac.length<=32769->ZB w0 W->Zg 84 #[.pointer (Zs b 0),.agg #[Zi t,.string u,.slice G L V,.slice I M Y,.slice J U c3]] W fun e w'=>e=.returned (.tuple #[])/\WrAt w0.heap.size b T (Jc ac (tk k)) w'/\Below w0.heap.size W w'/\Stay b W w') :
  Zg 86 #[.pointer (Zs b 0),.agg #[Zi K,.string l,.slice pn q cn,.slice pe e ce,.slice pp q cp]] w fun e w'=>e=.returned (.tuple #[])/\WrAt w0.heap.size b T (Jc j ((List.range q).flatMap (zhn nm tk))) w'/\Below w0.heap.size w w'/\Stay b w w':=by
 obtain⟨O,Z⟩:=Ze (.cells #[Zi K,.string l,.slice pn q cn,.slice pe e ce,.slice pp q cp] 31:Obj)
 have aX:b<w.heap.size:=by obtain⟨_,_,v,h,_⟩:=hw;exact h.lt
 have ad:w.heap.size≠b:=by omega
 have aq:ZH (∀W:Zw,W.heap[w.heap.size]?=some O->W.cell? ⟨w.heap.size,4,none⟩=some (.slice pp q cp)):=fun W h=>by
  rw[Z]at h;rw[Y0 h];rfl
 have ar:=J3 (Jm w O);have ae:ZH (∀c af,O≠.cells c 112 af):=by show ∀c af,_;rw[Z];intro c af e;injection e with _ e _;exact absurd e (by decide)
 have au:ZH (WrAt w0.heap.size b T j (w.alloc O)):=by obtain⟨r,ag,v,aM,aN⟩:=hw;exact⟨r,ag,v,aM.alloc O,aN.alloc O⟩
 have av:=J3 ao;have aw:=J3 ap;have aO:=J3 ab;have aP:=ab.size;clear ao ap hw ab;go_enter Tryz.func86,Tryz.ntmps86;go_wp2;rw[<-Z];clear Z
 go_loopw [9] (fun i wr=>∃k:Nat,i=Zi k/\k<=q/\ZH (WrAt w0.heap.size b T (Jc j ((List.range k).flatMap (zhn nm tk))) wr)/\ZH (Below w0.heap.size w wr)/\ZH (Stay b w wr)/\ZH (wr.heap[w.heap.size]?=some O)) (fun i _=>q-(intOf i).toNat)
 case atStart=>exact⟨0,rfl,by omega,au,(Yu _ _).alloc aP O,.of_below ((Yu _ _).alloc (Y5 _) O),ar⟩
 case round=>
  obtain⟨k,rfl,aY,ah,ai,ax,HOr⟩:=hrel;by_cases ay:k<q
  ·have aZ:(k:Int)<(q:Int):=by omega
   obtain⟨az,on,rfl,aj⟩:=av k ay;obtain⟨s,op,t,u,G,I,J,L,M,U,V,Y,c3,rfl,a0,ak,a2,a3,a4,wt⟩:=aw k ay;have aQ:=J3 wt;have aa:=J3 (zl5 j (zhn nm tk) k);have al:(Jc j ((List.range k).flatMap (zhn nm tk))).length<=32769:=zah _ _ an;obtain⟨a1,aA⟩:∃x,x=Jc j ((List.range k).flatMap (zhn nm tk)):=⟨_,rfl⟩
   rw[<-aA]at ah aa al;have aB:=aO.trans ai;have FF:ZH (∀W:Zw,ZB w0 W->W.heap[w.heap.size]?=some O->W.cell? ⟨w.heap.size,4,none⟩=some (.slice (Zs s op) q cp)/\W.cell? ⟨az,on+k,none⟩=some (.string ⟨(nm k).toArray⟩) /\
     ZK5 W s (op+k*5) (Zi t) (.string u) (.slice G L V) (.slice I M Y) (.slice J U c3)):=fun W r ag=>
    ⟨aq W ag,(r.cell (p:=⟨az,_,none⟩) (J2 aj)).trans aj,(r.cell (p:=⟨s,_,none⟩) (J2 a0)).trans a0,(r.cell (p:=⟨s,_,none⟩) (J2 ak)).trans ak,(r.cell (p:=⟨s,_,none⟩) (J2 a2)).trans a2,(r.cell (p:=⟨s,_,none⟩) (J2 a3)).trans a3,(r.cell (p:=⟨s,_,none⟩) (J2 a4)).trans a4⟩
   clear aj a0 ak a2 a3 a4 wt aA an au ar av aw aq;obtain⟨m0,m1,m2,m3,m4,m5,m6⟩:=FF wr aB HOr;rw[zhn]at aa
   ·rw[Jq,J8,Jq,JE]at aa;go_wp2_with (first
     | (go_at_call 75;refine(zi7 w0.heap.size b T _ (nm k) _ ah (by omega)).mono ?_;rintro x aR ⟨rfl,aS,aC,aD⟩;have am:=(aB).trans aC;have aE:=aD.2 _ _ HOr ad ae;obtain⟨m0,m1,m2,m3,m4,m5,m6⟩:=FF aR am aE)
     | (go_at_call 84;refine(aQ _ _ aS (zbk _ al) am).mono ?_;rintro x wc ⟨rfl,aT,aF,aG⟩;have aH:=(am).trans aF;have aI:=aG.2 _ _ aE ad ae;obtain⟨m0,m1,m2,m3,m4,m5,m6⟩:=FF wc aH aI)
     | (go_at_call 67;refine(zcs w0.heap.size b T _ [59] _ aT (Yh (zah _ _ (zbk _ al)) (by omega))).mono ?_;rintro x wd ⟨rfl,aU,aJ,aK⟩;have aV:=(aH).trans aJ;have aL:=aK.2 _ _ aI ad ae;obtain⟨m0,m1,m2,m3,m4,m5,m6⟩:=FF wd aV aL))
    go_roundw
    case rel=>exact⟨k+1,by go_num,by omega,(by rw[J0 aa];exact aU),ai.trans (aC.trans (aF.trans aJ)),ax.trans (aD.trans (aG.trans aK)),aL⟩
    case measure=>simp[intOf];omega
  ·obtain rfl:k=q:=by omega
   go_wp2;exact Yd (v:=.tuple #[]) (by simp[results,Tryz.results86,go_sem]) rfl ⟨rfl,ah,ai,ax⟩
end Go.Proofs.YtdcbglnhhbmpgaaGreatDoor
