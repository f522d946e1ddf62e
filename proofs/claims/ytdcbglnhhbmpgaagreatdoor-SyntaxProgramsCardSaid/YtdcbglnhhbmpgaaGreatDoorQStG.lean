import Derived.Test.YtdcbglnhhbmpgaaGreatDoorQExF
set_option maxHeartbeats 4000000
set_option maxRecDepth 100000
namespace Go.Proofs.YtdcbglnhhbmpgaaGreatDoor
open Go Go.RowKit Lx
def St (D d:Nat):Nat->Type
 | 0=>Empty
 | m+1=>Int×Int×Bs×List (Ty D)×List (Ex D d)×List (St D d m)×List (St D d m)
abbrev sAt {D d m:Nat} (s:St D d (m+1)):Int:=s.1
abbrev zii {D d m:Nat} (s:St D d (m+1)):Int:=s.2.1
abbrev zb4 {D d m:Nat} (s:St D d (m+1)):Bs:=s.2.2.1
abbrev sT {D d m:Nat} (s:St D d (m+1)):List (Ty D):=s.2.2.2.1
abbrev sX {D d m:Nat} (s:St D d (m+1)):List (Ex D d):=s.2.2.2.2.1
abbrev sB {D d m:Nat} (s:St D d (m+1)):List (St D d m):=s.2.2.2.2.2.1
abbrev sE {D d m:Nat} (s:St D d (m+1)):List (St D d m):=s.2.2.2.2.2.2
def StRow (W:Zw) (D d:Nat):(m:Nat)->Value->List (St D d m)->Prop
 | 0,v,_=>∃(p:Zo) (c:Nat),v=.slice p 0 c
 | m+1,v,h=>∃(p:Zo) (c:Nat),v=.slice p h.length c/\∀j s,h[j]?=some s->∃(g o:Nat) (vt vx vb ve:Value),p=some ⟨g,o,none⟩ /\
   W.cell? ⟨g,o+j*7,none⟩=some (Zi (sAt s))/\W.cell? ⟨g,o+j*7+1,none⟩=some (Zi (zii s))/\W.cell? ⟨g,o+j*7+2,none⟩=some (.string ⟨(zb4 s).toArray⟩) /\
   W.cell? ⟨g,o+j*7+3,none⟩=some vt/\W.cell? ⟨g,o+j*7+4,none⟩=some vx/\W.cell? ⟨g,o+j*7+5,none⟩=some vb/\W.cell? ⟨g,o+j*7+6,none⟩=some ve /\
   TyRow W D vt (sT s)/\(ExRow W D d vx (sX s)/\ExCap W D d vx (sX s))/\StRow W D d m vb (sB s)/\StRow W D d m ve (sE s)
def StVal (W:Zw) (D d m:Nat) (v:Value) (s:St D d (m+1)):Prop:=
 ∃(pt px pb pe:Zo) (ct cx cb ce:Nat),v=.agg #[Zi (sAt s),Zi (zii s),.string ⟨(zb4 s).toArray⟩,.slice pt (sT s).length ct,.slice px (sX s).length cx,.slice pb (sB s).length cb,.slice pe (sE s).length ce] /\
  TyRow W D (.slice pt (sT s).length ct) (sT s)/\(ExRow W D d (.slice px (sX s).length cx) (sX s)/\ExCap W D d (.slice px (sX s).length cx) (sX s))/\StRow W D d m (.slice pb (sB s).length cb) (sB s)/\StRow W D d m (.slice pe (sE s).length ce) (sE s)
theorem StRow.below {w w':Zw} {D d:Nat} (r:ZB w w'):∀(m:Nat) {v:Value} {s:List (St D d m)},StRow w D d m v s->StRow w' D d m v s
 | 0,_,_,h=>h
 | m+1,v,xs,h=>by
  obtain⟨p,c,rfl,hp⟩:=h;refine⟨p,c,rfl,fun j t u=>?_⟩;obtain⟨g,o,vt,vx,vb,ve,rfl,a0,x,a2,a3,a4,a5,G,I,⟨J,L⟩,M,U⟩:=hp j t u;have V:=J2 a0;exact⟨g,o,vt,vx,vb,ve,rfl,Zq r a0,Zq r x,Zq r a2,Zq r a3,Zq r a4,Zq r a5,Zq r G,TyRow.below r D I,⟨ExRow.below r d J,ExCap.below r d L⟩,StRow.below r m M,StRow.below r m U⟩
theorem StVal.below {w w':Zw} {D d m:Nat} {v:Value} {s:St D d (m+1)} (h:StVal w D d m v s) (c:ZB w w'):StVal w' D d m v s:=by
 obtain⟨pt,px,pb,pe,ct,cx,cb,ce,rfl,g,⟨j,r⟩,t,u⟩:=h;exact⟨pt,px,pb,pe,ct,cx,cb,ce,rfl,TyRow.below c D g,⟨ExRow.below c d j,ExCap.below c d r⟩,StRow.below c m t,StRow.below c m u⟩
theorem StRow.slice {w:Zw} {D d:Nat}:∀{m:Nat} {v:Value} {g:List (St D d m)},StRow w D d m v g->∃(p:Zo) (c:Nat),v=.slice p g.length c
 | 0,_,[],h=>h
 | 0,_,t::_,_=>nomatch t
 | _+1,_,_,⟨p,c,e,_⟩=>⟨p,c,e⟩
def StFit (D d m:Nat) (s:St D d (m+1)):Prop:=
 (zb4 s).length<=1000000/\za5 D (sT s)/\(sT s).length<=1000000/\ExFits D d (sX s)/\(sX s).length<=1000000/\(sB s).length<=1000000/\(sE s).length<=1000000
def zen (D d:Nat):(m:Nat)->List (St D d m)->Prop
 | 0,_=>True
 | m+1,c=>c.length<=1000000/\∀s∈c,StFit D d m s/\zen D d m (sB s)/\zen D d m (sE s)
def zet (K:Int) (S:Bs) (t x b e:Nat) (tk:Bool):Bool:=
 decide (x=1) &&
 (if K=1 then decide (t<=1)&&decide (b=0)&&decide (e=0)&&tk
  else if K=2 then decide (t=0)&&decide (b=0)&&decide (e=0)&&tk
  else if K=3∨K=6∨K=7 then S.isEmpty&&decide (t=0)&&decide (b=0)&&decide (e=0)
  else if K=4 then S.isEmpty&&decide (t=0)
  else if K=5 then S.isEmpty&&decide (t=0)&&decide (e=0)
  else false)
def zfg (D d m:Nat) (s:St D d (m+1)):Bool:=zet (zii s) (zb4 s) (sT s).length (sX s).length (sB s).length (sE s).length (za3 1 (zb4 s))
def za2 (D d:Nat):(m:Nat)->Int->List (St D d m)->Bool
 | 0,_,_=>true
 | m+1,room,c=>c.all fun s=>!decide (room=0)&&zfg D d m s&&Ju D 64 (sT s)&&((sX s)[0]?.map (za9 D d 64)).getD true&&za2 D d m (room-1) (sB s)&&za2 D d m (room-1) (sE s)
def zkq (D d m:Nat) (room:Int) (s:St D d (m+1)):Bool:=!decide (room=0)&&zfg D d m s&&Ju D 64 (sT s)&&((sX s)[0]?.map (za9 D d 64)).getD true&&za2 D d m (room-1) (sB s)&&za2 D d m (room-1) (sE s)
theorem rightSs_drop {D d m:Nat} {room:Int} {c:List (St D d (m+1))} {k:Nat} (h:k<c.length):za2 D d (m+1) room (c.drop k)=(zkq D d m room c[k]&&za2 D d (m+1) room (c.drop (k+1))):=by
 rw[Yt h,za2,za2,YL];rfl
def stT (K:Int) (S:Bs) (ty x b e:List Tok) (ne:Nat):List Tok:=
 if K=4 then tW [105,102]::(x++tS [123]::(b++[tS [125]])++(if 0<ne then tW [101,108,115,101]::tS [123]::(e++[tS [125]])else[]))
 else if K=5 then tW [119,104,105,108,101]::(x++tS [123]::(b++[tS [125]]))
 else(if K=1 then tW [108,101,116]::tN S::(ty++[tS [61]])else if K=2 then[tN S,tS [61]]else if K=3 then[tW [112,114,105,110,116]]else if K=6 then[tW [114,101,116,117,114,110]]else[])++(x++[tS [59]])
def zes (D d:Nat):(m:Nat)->List (St D d m)->List Tok
 | 0,_=>[]
 | m+1,c=>c.flatMap fun s=>stT (zii s) (zb4 s) ((sT s).flatMap (Jf D false)) (((sX s)[0]?.map (zj6 D d)).getD []) (zes D d m (sB s)) (zes D d m (sE s)) (sE s).length
def stTk (D d m:Nat) (s:St D d (m+1)):List Tok:=stT (zii s) (zb4 s) ((sT s).flatMap (Jf D false)) (((sX s)[0]?.map (zj6 D d)).getD []) (zes D d m (sB s)) (zes D d m (sE s)) (sE s).length
theorem shapedS_run (A K:Int) (l:Bs) (pt px pb pe:Zo) (t x b e ct cx cb ce:Nat) (tk:Bool) (w:Zw) (_h1:t<=1000000) (_h2:x<=1000000) (_h3:b<=1000000) (_h4:e<=1000000)
  (u:∀W,ZB w W->ZC 73 #[Zi 1,.string ⟨l.toArray⟩] W (.bool tk)) :
  Zg 137 #[.agg #[Zi A,Zi K,.string ⟨l.toArray⟩,.slice pt t ct,.slice px x cx,.slice pb b cb,.slice pe e ce]] w fun y w'=>y=.returned (.bool (zet K l t x b e tk))/\ZB w w':=by
 have g:=J3 u;clear u;by_cases h:x=1
 rotate_left
 ·have L:((x:Int)==1)=false:=by rw[nb1,Ym h]
  have Y:((x:Int) != 1)=true:=by rw[bne,L];rfl
  have M:ZH (zet K l t x b e tk=false):=by show _=_;rw[zet,Ym h];rfl
  clear h g;go_enter Tryz.func137,Tryz.ntmps137;go_wp2;go_ret;exact⟨by rw[J0 M];rfl,Za _ _⟩
 subst h;go_enter Tryz.func137,Tryz.ntmps137;go_wp2;go_quiet (fail);obtain⟨W0,c⟩:=Ze ((w.alloc (.cells #[Zi A,Zi K,.string ⟨l.toArray⟩,.slice pt t ct,.slice px 1 cx,.slice pb b cb,.slice pe e ce] 124)).drewN nq)
 have r:ZB w W0:=by rw[c];exact Yw (Za _ _) _
 have Z:w.heap.size<W0.heap.size:=by rw[c];simp[World.drewN]
 have s:∀j,W0.cell? ⟨w.heap.size,j,none⟩=#[Zi A,Zi K,.string ⟨l.toArray⟩,.slice pt t ct,.slice px 1 cx,.slice pb b cb,.slice pe e ce][j]?:=fun j=>by
  rw[c];show(w.alloc _).cell? _=_;rw[Ya _ _ _ _ (by rfl)]
 have G:=s 1;have I:=s 2;simp at G I;rw[<-c];clear c s;have U:K=1∨K=2∨K=3∨K=4∨K=5∨K=6∨K=7∨(K≠1/\K≠2/\K≠3/\K≠4/\K≠5/\K≠6/\K≠7):=by omega
 have J:=J3 r;rcases U with rfl|rfl|rfl|rfl|rfl|rfl|rfl|⟨k1,k2,k3,k4,k5,k6,k7⟩
 all_goals
  go_wp2_with (go_at_call 73;refine(g _ J).mono ?_;clear g;rintro x w1 ⟨rfl,V⟩)
 any_goals
  go_ret;refine⟨congrArg (fun b=>Ending.returned (Value.bool b)) ?_,?_⟩
  rotate_left
  ·first|exact r|exact r.trans (V.mono (by omega))
  try clear g
  clear J G I
  first
   | (simp_all [zet,nb0];done)
   | (by_cases z:t<=1 <;> first|(exfalso;omega)|(simp_all [zet];done)|(rw[zet];simp[z];done))
theorem shapedStmt_any (D d m:Nat) (v:Value) (s:St D d (m+1)) (w:Zw) (g:StVal w D d m v s) (h:StFit D d m s) (j:Tab w) (r:4<=w.heap.size) :
  ZC 137 #[v] w (.bool (zfg D d m s)):=by
 obtain⟨pt,px,pb,pe,ct,cx,cb,ce,rfl,_⟩:=g;obtain⟨f1,f2,f3,f4,f5,f6,f7⟩:=h;exact shapedS_run _ _ (zb4 s) pt px pb pe _ _ _ _ ct cx cb ce _ w f3 f5 f6 f7 fun W c=>zcb 1 (zb4 s) W (by omega) (j.below c r) (by have:=c.size;omega)
def RightSsAt (D d m:Nat):Prop:=∀(v:Value) (c:List (St D d m)) (room:Int) (w:Zw),StRow w D d m v c->zen D d m c->0<=room->room<=1000000->Tab w->4<=w.heap.size ->
 ZC 54 #[v,Zi room] w (.bool (za2 D d m room c))
abbrev sBox (A K:Int) (S:Zy) (pt px pb pe:Zo) (t x b e ct cx cb ce:Nat):Obj:=.cells #[Zi A,Zi K,.string S,.slice pt t ct,.slice px x cx,.slice pb b cb,.slice pe e ce] 124
theorem JA {A K:Int} {S:Zy} {pt px pb pe:Zo} {t x b e ct cx cb ce:Nat} {w wr:Zw} (c:Below (w.alloc (sBox A K S pt px pb pe t x b e ct cx cb ce)).heap.size (w.alloc (sBox A K S pt px pb pe t x b e ct cx cb ce)) wr) :
  ZL7 wr w.heap.size (Zi A) (Zi K) (.string S) (.slice pt t ct) (.slice px x cx) (.slice pb b cb) (.slice pe e ce):=by
 have h:∀j,wr.cell? ⟨w.heap.size,j,none⟩=(#[Zi A,Zi K,.string S,.slice pt t ct,.slice px x cx,.slice pb b cb,.slice pe e ce])[j]?:=fun j=>by
  rw[c.cell (p:=⟨w.heap.size,j,none⟩) (by simp),Ya _ _ _ _ rfl]
 exact⟨h 0,h 1,h 2,h 3,h 4,h 5,h 6⟩
theorem zax {u v w:Zw} (h:ZB u v) (k:ZB v w):ZB u w:=Zn h k
theorem sal1 (w:Zw) (O:Obj):ZB w (w.alloc O):=Za _ _
theorem rightStmt_run (A K:Int) (S:Zy) (pt px pb pe:Zo) (t x b e ct cx cb ce:Nat) (room:Int) (w:Zw) (h0:0<=room) (h1:room<=1000000) (J z2 z3 z4 z5:Bool)
  (hS:∀W,ZB w W->ZC 137 #[.agg #[Zi A,Zi K,.string S,.slice pt t ct,.slice px x cx,.slice pb b cb,.slice pe e ce]] W (.bool J))
  (hT:∀W,ZB w W->ZC 80 #[.slice pt t ct,Zi 64] W (.bool z2))
  (hX:J=true->∃(g o:Nat) (L M U:Int) (S':Zy) (V Y Z:Zo) (n1 n2 n3 c1 c2 c3:Nat),px=some ⟨g,o,none⟩/\1<=x/\w.cell? ⟨g,o,none⟩=some (Zi L)/\w.cell? ⟨g,o+1,none⟩=some (Zi M)/\w.cell? ⟨g,o+2,none⟩=some (Zi U)/\w.cell? ⟨g,o+3,none⟩=some (.string S')/\w.cell? ⟨g,o+4,none⟩=some (.slice V n1 c1)/\w.cell? ⟨g,o+5,none⟩=some (.slice Y n2 c2)/\w.cell? ⟨g,o+6,none⟩=some (.slice Z n3 c3) /\
   ∀W,ZB w W->ZC 52 #[.agg #[Zi L,Zi M,Zi U,.string S',.slice V n1 c1,.slice Y n2 c2,.slice Z n3 c3],Zi 64] W (.bool z3))
  (hB:0<room->∀W,ZB w W->ZC 54 #[.slice pb b cb,Zi (room-1)] W (.bool z4))
  (hE:0<room->∀W,ZB w W->ZC 54 #[.slice pe e ce,Zi (room-1)] W (.bool z5)) :
  Zg 95 #[.agg #[Zi A,Zi K,.string S,.slice pt t ct,.slice px x cx,.slice pb b cb,.slice pe e ce],Zi room] w fun y w'=>y=.returned (.bool (!decide (room=0)&&J&&z2&&z3&&z4&&z5))/\ZB w w':=by
 have r:ZH (ZB w (w.alloc (sBox A K S pt px pb pe t x b e ct cx cb ce))):=sal1 _ _;have s:=J3 (hS _ r);have ST:=J3 hT;have SX:=J3 hX;clear hS hT hX;by_cases hr:room=0
 ·subst hr;clear s ST SX hB hE;go_enter Tryz.func95,Tryz.ntmps95;go_wp2;go_ret;exact⟨by simp,r⟩
 have aa:(!decide (room=0))=true:=by simp[hr]
 have ac:(room==0)=false:=Y3.2 hr;have e1:IntKind.i64.wrap (room-1)=room-1:=by rw[YJ];omega
 have SB:=J3 (hB (by omega));have SE:=J3 (hE (by omega));rw[aa,XD];clear hB hE aa
 cases J
 ·go_enter Tryz.func95,Tryz.ntmps95;go_wp2_with (go_at_call 137;refine s.mono ?_;clear s;rintro y w1 ⟨rfl,c⟩);go_ret;exact⟨by simp,zax r c⟩
 obtain⟨g,o,L,M,U,S',V,Y,Z,n1,n2,n3,c1,c2,c3,rfl,ad,a0,a1,a2,a3,a4,a5,a6,RX⟩:=SX rfl;have G:=J3 RX;have HC:ZH (∀W,ZB w W->ZK7 W g o (Zi L) (Zi M) (Zi U) (.string S') (.slice V n1 c1) (.slice Y n2 c2) (.slice Z n3 c3)):=fun W h=>
  ⟨(h.cell (p:=⟨g,_,none⟩) (J2 a0)).trans a0,(h.cell (p:=⟨g,_,none⟩) (J2 a1)).trans a1,(h.cell (p:=⟨g,_,none⟩) (J2 a2)).trans a2,(h.cell (p:=⟨g,_,none⟩) (J2 a3)).trans a3,(h.cell (p:=⟨g,_,none⟩) (J2 a4)).trans a4,(h.cell (p:=⟨g,_,none⟩) (J2 a5)).trans a5,(h.cell (p:=⟨g,_,none⟩) (J2 a6)).trans a6⟩
 have ae:(0:Int)<(x:Int):=by omega
 clear SX RX a0 a1 a2 a3 a4 a5 a6
 cases z2
 ·go_enter Tryz.func95,Tryz.ntmps95;go_wp2_with (first
   | (go_at_call 137;refine s.mono ?_;clear s;rintro y w1 ⟨rfl,c⟩;obtain⟨d0,d1,d2,d3,d4,d5,d6⟩:=JA c)
   | (go_at_call 80;refine(ST _ (zax r c)).mono ?_;clear ST;rintro y w2 ⟨rfl,j⟩))
  go_ret;exact⟨by simp,zax (zax r c) j⟩
 cases z3
 ·go_enter Tryz.func95,Tryz.ntmps95;go_wp2_with (first
   | (go_at_call 137;refine s.mono ?_;clear s;rintro y w1 ⟨rfl,c⟩;obtain⟨d0,d1,d2,d3,d4,d5,d6⟩:=JA c)
   | (go_at_call 80;refine(ST _ (zax r c)).mono ?_;clear ST;rintro y w2 ⟨rfl,j⟩;obtain⟨d0,d1,d2,d3,d4,d5,d6⟩:=JA (zax c j);obtain⟨x0,x1,x2,x3,x4,x5,x6⟩:=HC _ (zax (zax r c) j))
   | (go_at_call 52;refine(G _ (zax (zax r c) j)).mono ?_;clear G;rintro y w3 ⟨rfl,u⟩))
  go_ret;exact⟨by simp,zax (zax (zax r c) j) u⟩
 cases z4
 ·go_enter Tryz.func95,Tryz.ntmps95;go_wp2_with (first
   | (go_at_call 137;refine s.mono ?_;clear s;rintro y w1 ⟨rfl,c⟩;obtain⟨d0,d1,d2,d3,d4,d5,d6⟩:=JA c)
   | (go_at_call 80;refine(ST _ (zax r c)).mono ?_;clear ST;rintro y w2 ⟨rfl,j⟩;obtain⟨d0,d1,d2,d3,d4,d5,d6⟩:=JA (zax c j);obtain⟨x0,x1,x2,x3,x4,x5,x6⟩:=HC _ (zax (zax r c) j))
   | (go_at_call 52;refine(G _ (zax (zax r c) j)).mono ?_;clear G;rintro y w3 ⟨rfl,u⟩;obtain⟨d0,d1,d2,d3,d4,d5,d6⟩:=JA (zax (zax c j) u))
   | (go_at_call 54;refine(SB _ (zax (zax (zax r c) j) u)).mono ?_;clear SB;rintro y w4 ⟨rfl,I⟩))
  go_ret;exact⟨by simp,zax (zax (zax (zax r c) j) u) I⟩
 go_enter Tryz.func95,Tryz.ntmps95;go_wp2_with (first
  | (go_at_call 137;refine s.mono ?_;clear s;rintro y w1 ⟨rfl,c⟩;obtain⟨d0,d1,d2,d3,d4,d5,d6⟩:=JA c)
  | (go_at_call 80;refine(ST _ (zax r c)).mono ?_;clear ST;rintro y w2 ⟨rfl,j⟩;obtain⟨d0,d1,d2,d3,d4,d5,d6⟩:=JA (zax c j);obtain⟨x0,x1,x2,x3,x4,x5,x6⟩:=HC _ (zax (zax r c) j))
  | (go_at_call 52;refine(G _ (zax (zax r c) j)).mono ?_;clear G;rintro y w3 ⟨rfl,u⟩;obtain⟨d0,d1,d2,d3,d4,d5,d6⟩:=JA (zax (zax c j) u))
  | (go_at_call 54;refine(SB _ (zax (zax (zax r c) j) u)).mono ?_;clear SB;rintro y w4 ⟨rfl,I⟩;obtain⟨d0,d1,d2,d3,d4,d5,d6⟩:=JA (zax (zax (zax c j) u) I))
  | (go_at_call 54;refine(SE _ (zax (zax (zax (zax r c) j) u) I)).mono ?_;clear SE;rintro y w5 ⟨rfl,ab⟩))
 go_ret;exact⟨by simp,zax (zax (zax (zax (zax r c) j) u) I) ab⟩
theorem zm8 {D d m:Nat} {s:St D d (m+1)} (h:zfg D d m s=true):(sX s).length=1:=by
 unfold zfg zet at h;simp only[Yc,Xb]at h;exact h.1
theorem ExRow.first {w:Zw} {D:Nat}:∀{d:Nat} {p:Zo} {c:Nat} {xs:List (Ex D d)},ExRow w D d (.slice p xs.length c) xs->ExFits D d xs->1<=xs.length->Tab w->4<=w.heap.size->∃(g o:Nat) (J L M:Int) (S':Zy) (s j t:Zo) (U V Y u r c3:Nat),p=some ⟨g,o,none⟩/\w.cell? ⟨g,o,none⟩=some (Zi J)/\w.cell? ⟨g,o+1,none⟩=some (Zi L)/\w.cell? ⟨g,o+2,none⟩=some (Zi M)/\w.cell? ⟨g,o+3,none⟩=some (.string S')/\w.cell? ⟨g,o+4,none⟩=some (.slice s U u)/\w.cell? ⟨g,o+5,none⟩=some (.slice j V r)/\w.cell? ⟨g,o+6,none⟩=some (.slice t Y c3) /\
   ∀W,ZB w W->ZC 52 #[.agg #[Zi J,Zi L,Zi M,.string S',.slice s U u,.slice j V r,.slice t Y c3],Zi 64] W (.bool ((xs[0]?.map (za9 D d 64)).getD true))
 | 0,_,_,[],_,_,h,_,_=>by simp at h
 | 0,_,_,x::_,_,_,_,_,_=>nomatch x
 | d+1,p,c,xs,hr,hf,h1,ht,h5=>by
  obtain⟨p',c',e,hp⟩:=hr;injection e with e1 e2 e3
  subst e1;have G:xs[0]?=some xs[0]:=by simp
  obtain⟨g,o,vt,vn,vp,rfl,a0,Z,a2,a3,a4,a5,a6,q1,q2,q3⟩:=hp 0 _ G;obtain⟨f1,f2⟩:=hf.2 _ (YK G);obtain⟨s,u,rfl⟩:=q1.slice;obtain⟨j,r,rfl,h2⟩:=q2;obtain⟨t,c3,rfl⟩:=q3.slice;simp only[Xt,Xs]at a0 Z a2 a3 a4 a5 a6;refine⟨g,o,_,_,_,_,s,j,t,_,_,_,u,r,c3,rfl,a0,Z,a2,a3,a4,a5,a6,fun W I=>?_⟩;rw[G];exact zfk D d _ _ 64 W (ExVal.below (w:=w) ⟨s,j,t,u,r,c3,rfl,q1,⟨j,r,rfl,h2⟩,q3⟩ I) f1 f2 (by omega) (by omega) (ht.below I h5) (by have:=I.size;omega)
theorem rightStmt_of (D d m:Nat) (t:RightSsAt D d m) (v:Value) (s:St D d (m+1)) (room:Int) (w:Zw) (u:StVal w D d m v s) (r:StFit D d m s) (x:zen D d m (sB s)) (G:zen D d m (sE s)) (I:0<=room) (J:room<=1000000) (h:Tab w) (j:4<=w.heap.size) :
  ZC 95 #[v,Zi room] w (.bool (zkq D d m room s)):=by
 have L:=u;obtain⟨pt,px,pb,pe,ct,cx,cb,ce,rfl,M,⟨U,_⟩,V,Y⟩:=u;refine rightStmt_run _ _ _ pt px pb pe _ _ _ _ ct cx cb ce room w I J _ _ (((sX s)[0]?.map (za9 D d 64)).getD true) _ _ (fun W c=>shapedStmt_any D d m _ s W (L.below c) r (h.below c j) (by have:=c.size;omega))
  (fun W c=>zbo D _ _ 64 W (TyRow.below c D M) r.2.1 (by omega) (by omega) (h.below c j) (by have:=c.size;omega)) (fun hz=>?_)
  (fun Z W c=>t _ _ _ W (StRow.below c m V) x (by omega) (by omega) (h.below c j) (by have:=c.size;omega)) (fun Z W c=>t _ _ _ W (StRow.below c m Y) G (by omega) (by omega) (h.below c j) (by have:=c.size;omega))
 have hl:=zm8 hz;obtain⟨g,o,A',K',N',S',p1,p2,p3,n1,n2,n3,c1,c2,c3,q⟩:=ExRow.first U r.2.2.2.1 (by omega) h j;exact⟨g,o,A',K',N',S',p1,p2,p3,n1,n2,n3,c1,c2,c3,q.1,by omega,q.2⟩
theorem zmg (p:Zo) (c:Nat) (room:Int) (w:Zw):ZC 54 #[.slice p 0 c,Zi room] w (.bool true):=by
 go_enter Tryz.func54,Tryz.ntmps54;go_wp2
 go_loopw [9] (fun i wr=>i=Zi 0/\wr=w) (fun _ _=>0)
 case atStart=>exact⟨rfl,rfl⟩
 case round=>
  obtain⟨rfl,rfl⟩:=hrel;go_wp2;go_ret;exact⟨rfl,Zr⟩
theorem zhb (D d:Nat):∀m,RightSsAt D d m
 | 0=>fun v h room w u _ _ _ _ _=>by
  obtain⟨p,c,rfl⟩:=u;exact zmg p c room w
 | m+1=>fun v h room w u G h0 h1 ht h5=>by
  have IH:=J3 (zhb D d m);obtain⟨p,c,rfl,hp⟩:=u;have hlen:=G.1;have HP:=J3 hp;have HF:=J3 G.2;have HT:=J3 ht;clear hp G ht;go_enter Tryz.func54,Tryz.ntmps54;go_wp2
  go_loopw [9] (fun i wr=>∃k:Nat,i=Zi k/\k<=h.length/\ZH (za2 D d (m+1) room h=za2 D d (m+1) room (h.drop k))/\ZB w wr) (fun i _=>h.length-(intOf i).toNat)
  case atStart=>exact⟨0,rfl,by omega,rfl,Zr⟩
  case round=>
   obtain⟨k,rfl,hk,I,j⟩:=hrel;by_cases aa:k<h.length
   ·obtain⟨g,o,vt,vx,vb,ve,rfl,a0,a1,a2,a3,a4,a5,a6,J,L,M,U⟩:=HP k h[k] (by simp[aa]);have ab:(k:Int)<(h.length:Int):=by omega
    obtain⟨q1,q2,q3⟩:=HF h[k] (by simp);obtain⟨pt,ct,rfl⟩:=J.slice;obtain⟨px,cx,rfl⟩:=L.1.slice;obtain⟨pb,cb,rfl⟩:=M.slice;obtain⟨pe,ce,rfl⟩:=U.slice;have TV:ZH (StVal w D d m (.agg #[Zi (sAt h[k]),Zi (zii h[k]),.string ⟨(zb4 h[k]).toArray⟩,.slice pt (sT h[k]).length ct,.slice px (sX h[k]).length cx,.slice pb (sB h[k]).length cb,.slice pe (sE h[k]).length ce]) h[k]):=⟨pt,px,pb,pe,ct,cx,cb,ce,rfl,J,L,M,U⟩
    have hg:=J2 a0;have b0:=Zq j a0;have b1:=Zq j a1;have b2:=Zq j a2;have b3:=Zq j a3;have b4:=Zq j a4;have b5:=Zq j a5;have b6:=Zq j a6;have r:=J3 j;have V:=J3 (rightSs_drop (room:=room) aa);have s:=j.size;obtain⟨z,hz⟩:=Ze (zkq D d m room h[k])
    have t:ZH (∀W,ZB w W->ZC 95 #[.agg #[Zi (sAt h[k]),Zi (zii h[k]),.string ⟨(zb4 h[k]).toArray⟩,.slice pt (sT h[k]).length ct,.slice px (sX h[k]).length cx,.slice pb (sB h[k]).length cb,.slice pe (sE h[k]).length ce],Zi room] W (.bool z)):=fun W Y=>by
     rw[hz];exact rightStmt_of D d m IH _ h[k] room W (TV.below Y) q1 q2 q3 (by omega) h1 (HT.below Y h5) (by have:=Y.size;omega)
    rw[<-hz]at V;clear a0 a1 a2 a3 a4 a5 a6 J L M U j TV q1 q2 q3 hz
    cases z
    ·go_wp2_with (go_at_call 95;refine(t _ (r.alloc s _)).mono ?_;clear t;rintro x w1 ⟨rfl,Z⟩);go_ret;exact⟨by rw[J0 I,J0 V];rfl,(r.alloc s _).trans (Z.mono (by simp;omega))⟩
    ·go_wp2_with (go_at_call 95;refine(t _ (r.alloc s _)).mono ?_;clear t;rintro x w1 ⟨rfl,Z⟩);go_roundw
     case rel=>exact⟨k+1,by go_num,by omega,(by rw[J0 I,J0 V];rfl),(r.alloc s _).trans (Z.mono (by simp;omega))⟩
     case measure=>simp[intOf];omega
   ·go_wp2;go_ret;exact⟨by rw[J0 I,Yg (by omega)];rfl,j⟩
end Go.Proofs.YtdcbglnhhbmpgaaGreatDoor
