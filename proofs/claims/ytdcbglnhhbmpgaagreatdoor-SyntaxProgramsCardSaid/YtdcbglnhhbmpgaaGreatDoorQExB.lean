import Derived.Test.YtdcbglnhhbmpgaaGreatDoorQExTwo
set_option maxHeartbeats 4000000
set_option maxRecDepth 100000
namespace Go.Proofs.YtdcbglnhhbmpgaaGreatDoor
open Go Go.RowKit Lx
theorem zil (k:Int) (s:Bs) (w:Zw) (j:s.length<=35184372088832) (t:Tab w) (G:4<=w.heap.size) :
  ZC 127 #[Zi k,.string ⟨s.toArray⟩] w (.bool (zji k s)):=by
 have g:=J3 (zcb k s w j t G);clear j t;by_cases h:k=0
 ·subst h;clear g;rcases s with _|⟨c,r⟩
  all_goals
   go_enter Tryz.func127,Tryz.ntmps127;go_wp2;go_ret;refine⟨?_,Zr⟩;simp[zji]
 ·have u:ZH (zji k s=za3 k s):=by show _=_;rw[zji,Y7 h]
  rw[J0 u];clear u;go_enter Tryz.func127,Tryz.ntmps127;go_wp2_with (go_at_call 73;refine g.mono ?_;clear g;rintro x w1 ⟨rfl,I⟩);go_ret;exact⟨rfl,I⟩
theorem zhd (named:Bool) (A K N:Int) (S:Zy) (ns:List Bs) (pt pn pp:Zo) (nt q ct cn cp:Nat) (w:Zw) (r:SRow w (.slice pn ns.length cn) ns) (t:ns.length<=1000000) (u:∀s∈ns,s.length<=35184372088832) (_hq:q<=1000000) (G:Tab w) (M:4<=w.heap.size) :
  ZC 128 #[.bool named,.agg #[Zi A,Zi K,Zi N,.string S,.slice pt nt ct,.slice pn ns.length cn,.slice pp q cp]] w (.bool (zd1 named ns q)):=by
 obtain⟨O,I⟩:=Ze (.cells #[Zi A,Zi K,Zi N,.string S,.slice pt nt ct,.slice pn ns.length cn,.slice pp q cp] 62:Obj)
 have c:ZB w (w.alloc O):=(Yu _ _).alloc (Y5 _) O;have g:ZH (∀m,m=ns.length->Zg 117 #[.slice pn m cn] (w.alloc O) fun e w'=>e=.returned (.bool (zaj ns))/\ZB w w'):=fun m hm=>hm ▸ (zep _ _ (w.alloc O) (r.below c) t u (G.below c M) (by simp;omega)).mono fun _ _ h=>⟨h.1,c.trans (h.2.mono (by simp))⟩
 have j:=J3 c;obtain⟨z,hz⟩:=Ze (zaj ns)
 have J:ZH (zd1 named ns q=if named=true then decide (ns.length=q)&&z else decide (ns.length=0)):=by rw[hz];rfl
 rw[<-hz]at g;rw[J0 J];rw[I]at g j;obtain⟨n,L⟩:=Ze ns.length
 rw[<-L]at g t j ⊢;clear hz J I r u G c L
 cases named
 ·go_enter Tryz.func128,Tryz.ntmps128;go_wp2;go_ret;exact⟨by simp[nb0],j⟩
 ·by_cases U:n=q
  ·subst U;go_enter Tryz.func128,Tryz.ntmps128;go_wp2_with (go_at_call 117;refine(g _ rfl).mono ?_;clear g;rintro x w1 ⟨rfl,V⟩);go_ret;exact⟨by simp,V⟩
  ·have Y:¬(n:Int)=(q:Int):=by omega
   go_enter Tryz.func128,Tryz.ntmps128;go_wp2;go_ret;exact⟨by simp,j⟩
theorem zh9 (A K N:Int) (S:Zy) (pt pn pp:Zo) (nt n q ct cn cp:Nat) (w:Zw) (_hq:q<=1000000) (_ht:nt<=1000000) (af aa types least ab:Int) (named ok b1 b2:Bool)
  (hS:∀W,ZC 126 #[Zi K] W (.tuple #[.agg #[Zi af,Zi aa,Zi types,.bool named,Zi least,Zi ab],.bool ok]))
  (h1:∀W,ZB w W->ZC 127 #[Zi af,.string S] W (.bool b1))
  (h2:∀W m k,m=n->k=q->ZB w W->ZC 128 #[.bool named,.agg #[Zi A,Zi K,Zi N,.string S,.slice pt nt ct,.slice pn m cn,.slice pp k cp]] W (.bool b2)) :
  ZC 88 #[.agg #[Zi A,Zi K,Zi N,.string S,.slice pt nt ct,.slice pn n cn,.slice pp q cp]] w (.bool (ok&&decide (0<=N)&&decide (N<=aa)&&decide ((nt:Int)=types)&&decide (least<=(q:Int))&&decide ((q:Int)<=ab)&&b1&&b2)):=by
 obtain⟨O,hO⟩:=Ze (.cells #[Zi A,Zi K,Zi N,.string S,.slice pt nt ct,.slice pn n cn,.slice pp q cp] 62:Obj)
 obtain⟨P,hP⟩:=Ze (.cells #[Zi af,Zi aa,Zi types,.bool named,Zi least,Zi ab] 172:Obj)
 have hb:ZB w (w.alloc O):=(Yu _ _).alloc (Y5 _) O;have t:ZH (Zg 126 #[Zi K] (w.alloc O) fun e w1=>e=.returned (.tuple #[.agg #[Zi af,Zi aa,Zi types,.bool named,Zi least,Zi ab],.bool ok])/\ZB w (w1.alloc P)/\w.heap.size<w1.heap.size /\
   (w1.alloc P).heap[w.heap.size]?=some O/\(w1.alloc P).heap[w1.heap.size]?=some P):=(hS (w.alloc O)).mono fun e w1 ⟨h,j⟩=>by
  have hs:=j.size;simp at hs;have ag:ZB w w1:=hb.trans (j.mono (by simp));have r:w1.heap[w.heap.size]?=some O:=(j.block _ (by simp)).trans (Jm _ _);exact⟨h,ag.alloc (by omega) P,by omega,(((Yu w1.heap.size w1).alloc (Y5 _) P).block _ (by omega)).trans r,Jm _ _⟩
 have u:ZH (∀(W:Zw) (g:Nat),W.heap[w.heap.size]?=some O->W.heap[g]?=some P->W.cell? ⟨w.heap.size,0,none⟩=some (Zi A)/\W.cell? ⟨w.heap.size,1,none⟩=some (Zi K)/\W.cell? ⟨w.heap.size,2,none⟩=some (Zi N)/\W.cell? ⟨w.heap.size,3,none⟩=some (.string S)/\W.cell? ⟨w.heap.size,4,none⟩=some (.slice pt nt ct)/\W.cell? ⟨w.heap.size,5,none⟩=some (.slice pn n cn)/\W.cell? ⟨w.heap.size,6,none⟩=some (.slice pp q cp) /\
   ZL6 W g (Zi af) (Zi aa) (Zi types) (.bool named) (Zi least) (Zi ab)):=fun W g a b=>by
  rw[hO]at a;rw[hP]at b;exact⟨by rw[Y0 a];rfl,by rw[Y0 a];rfl,by rw[Y0 a];rfl,by rw[Y0 a];rfl,by rw[Y0 a];rfl,by rw[Y0 a];rfl,by rw[Y0 a];rfl,by rw[Y0 b];rfl,by rw[Y0 b];rfl,by rw[Y0 b];rfl,by rw[Y0 b];rfl,by rw[Y0 b];rfl,by rw[Y0 b];rfl⟩
 have G:=J3 h1;have I:=J3 h2;rw[hO]at t u;rw[hP]at t u;clear h1 h2 hS hb hO hP;have BB:ZH (∀w1 Z:Zw,ZB w w1->ZB w1 Z->ZB w Z):=fun w1 Z a b=>Zn a b
 cases ok
 ·go_enter Tryz.func88,Tryz.ntmps88;go_wp2_with (first
   | (go_at_call 126;refine t.mono ?_;clear t;rintro x w1 ⟨rfl,j,ad,r,s⟩;obtain⟨J,L,M,c3,c4,c5,U,d0,d1,d2,d3,d4,d5⟩:=u _ _ r s)
   | (go_at_call 127;refine(G _ j).mono ?_;clear G;rintro x Z ⟨rfl,c⟩;have V:=(c.block _ (by simp;omega)).trans r;have Y:=(c.block _ (by simp)).trans s;obtain⟨J,L,M,c3,c4,c5,U,d0,d1,d2,d3,d4,d5⟩:=u _ _ V Y)
   | (go_at_call 128;refine(I _ _ _ rfl rfl (j.trans (c.mono (by simp;omega)))).mono ?_;clear I;rintro x w3 ⟨rfl,ac⟩;have ae:=c.size))
  go_ret;exact⟨by simp,j⟩
 by_cases g1:N<0
 ·go_enter Tryz.func88,Tryz.ntmps88;go_wp2_with (first
   | (go_at_call 126;refine t.mono ?_;clear t;rintro x w1 ⟨rfl,j,ad,r,s⟩;obtain⟨J,L,M,c3,c4,c5,U,d0,d1,d2,d3,d4,d5⟩:=u _ _ r s)
   | (go_at_call 127;refine(G _ j).mono ?_;clear G;rintro x Z ⟨rfl,c⟩;have V:=(c.block _ (by simp;omega)).trans r;have Y:=(c.block _ (by simp)).trans s;obtain⟨J,L,M,c3,c4,c5,U,d0,d1,d2,d3,d4,d5⟩:=u _ _ V Y)
   | (go_at_call 128;refine(I _ _ _ rfl rfl (j.trans (c.mono (by simp;omega)))).mono ?_;clear I;rintro x w3 ⟨rfl,ac⟩;have ae:=c.size))
  go_ret;exact⟨by rw[Ym (show ¬0<=N by omega)];simp,j⟩
 by_cases g2:aa<N
 ·go_enter Tryz.func88,Tryz.ntmps88;go_wp2_with (first
   | (go_at_call 126;refine t.mono ?_;clear t;rintro x w1 ⟨rfl,j,ad,r,s⟩;obtain⟨J,L,M,c3,c4,c5,U,d0,d1,d2,d3,d4,d5⟩:=u _ _ r s)
   | (go_at_call 127;refine(G _ j).mono ?_;clear G;rintro x Z ⟨rfl,c⟩;have V:=(c.block _ (by simp;omega)).trans r;have Y:=(c.block _ (by simp)).trans s;obtain⟨J,L,M,c3,c4,c5,U,d0,d1,d2,d3,d4,d5⟩:=u _ _ V Y)
   | (go_at_call 128;refine(I _ _ _ rfl rfl (j.trans (c.mono (by simp;omega)))).mono ?_;clear I;rintro x w3 ⟨rfl,ac⟩;have ae:=c.size))
  go_ret;exact⟨by rw[Ym (show ¬N<=aa by omega)];simp,j⟩
 by_cases g3:(nt:Int)=types
 rotate_left
 ·have ah:((nt:Int)==types)=false:=Y3.2 g3;have ai:((nt:Int) != types)=true:=bne_iff_ne.2 g3;go_enter Tryz.func88,Tryz.ntmps88;go_wp2_with (first
   | (go_at_call 126;refine t.mono ?_;clear t;rintro x w1 ⟨rfl,j,ad,r,s⟩;obtain⟨J,L,M,c3,c4,c5,U,d0,d1,d2,d3,d4,d5⟩:=u _ _ r s)
   | (go_at_call 127;refine(G _ j).mono ?_;clear G;rintro x Z ⟨rfl,c⟩;have V:=(c.block _ (by simp;omega)).trans r;have Y:=(c.block _ (by simp)).trans s;obtain⟨J,L,M,c3,c4,c5,U,d0,d1,d2,d3,d4,d5⟩:=u _ _ V Y)
   | (go_at_call 128;refine(I _ _ _ rfl rfl (j.trans (c.mono (by simp;omega)))).mono ?_;clear I;rintro x w3 ⟨rfl,ac⟩;have ae:=c.size))
  all_goals
   go_ret;exact⟨by rw[Ym g3];simp,j⟩
 by_cases g4:(q:Int)<least
 ·go_enter Tryz.func88,Tryz.ntmps88;go_wp2_with (first
   | (go_at_call 126;refine t.mono ?_;clear t;rintro x w1 ⟨rfl,j,ad,r,s⟩;obtain⟨J,L,M,c3,c4,c5,U,d0,d1,d2,d3,d4,d5⟩:=u _ _ r s)
   | (go_at_call 127;refine(G _ j).mono ?_;clear G;rintro x Z ⟨rfl,c⟩;have V:=(c.block _ (by simp;omega)).trans r;have Y:=(c.block _ (by simp)).trans s;obtain⟨J,L,M,c3,c4,c5,U,d0,d1,d2,d3,d4,d5⟩:=u _ _ V Y)
   | (go_at_call 128;refine(I _ _ _ rfl rfl (j.trans (c.mono (by simp;omega)))).mono ?_;clear I;rintro x w3 ⟨rfl,ac⟩;have ae:=c.size))
  go_ret;exact⟨by rw[Ym (show ¬least<=(q:Int) by omega)];simp,j⟩
 by_cases g5:ab<(q:Int)
 ·go_enter Tryz.func88,Tryz.ntmps88;go_wp2_with (first
   | (go_at_call 126;refine t.mono ?_;clear t;rintro x w1 ⟨rfl,j,ad,r,s⟩;obtain⟨J,L,M,c3,c4,c5,U,d0,d1,d2,d3,d4,d5⟩:=u _ _ r s)
   | (go_at_call 127;refine(G _ j).mono ?_;clear G;rintro x Z ⟨rfl,c⟩;have V:=(c.block _ (by simp;omega)).trans r;have Y:=(c.block _ (by simp)).trans s;obtain⟨J,L,M,c3,c4,c5,U,d0,d1,d2,d3,d4,d5⟩:=u _ _ V Y)
   | (go_at_call 128;refine(I _ _ _ rfl rfl (j.trans (c.mono (by simp;omega)))).mono ?_;clear I;rintro x w3 ⟨rfl,ac⟩;have ae:=c.size))
  go_ret;exact⟨by rw[Ym (show ¬(q:Int)<=ab by omega)];simp,j⟩
 have k1:0<=N:=by omega
 have k2:N<=aa:=by omega
 have k4:least<=(q:Int):=by omega
 have k5:(q:Int)<=ab:=by omega
 cases b1
 ·go_enter Tryz.func88,Tryz.ntmps88;go_wp2_with (first
   | (go_at_call 126;refine t.mono ?_;clear t;rintro x w1 ⟨rfl,j,ad,r,s⟩;obtain⟨J,L,M,c3,c4,c5,U,d0,d1,d2,d3,d4,d5⟩:=u _ _ r s)
   | (go_at_call 127;refine(G _ j).mono ?_;clear G;rintro x Z ⟨rfl,c⟩;have V:=(c.block _ (by simp;omega)).trans r;have Y:=(c.block _ (by simp)).trans s;obtain⟨J,L,M,c3,c4,c5,U,d0,d1,d2,d3,d4,d5⟩:=u _ _ V Y)
   | (go_at_call 128;refine(I _ _ _ rfl rfl (j.trans (c.mono (by simp;omega)))).mono ?_;clear I;rintro x w3 ⟨rfl,ac⟩;have ae:=c.size))
  go_ret;exact⟨by simp,BB _ _ j c⟩
 ·go_enter Tryz.func88,Tryz.ntmps88;go_wp2_with (first
   | (go_at_call 126;refine t.mono ?_;clear t;rintro x w1 ⟨rfl,j,ad,r,s⟩;obtain⟨J,L,M,c3,c4,c5,U,d0,d1,d2,d3,d4,d5⟩:=u _ _ r s)
   | (go_at_call 127;refine(G _ j).mono ?_;clear G;rintro x Z ⟨rfl,c⟩;have V:=(c.block _ (by simp;omega)).trans r;have Y:=(c.block _ (by simp)).trans s;obtain⟨J,L,M,c3,c4,c5,U,d0,d1,d2,d3,d4,d5⟩:=u _ _ V Y)
   | (go_at_call 128;refine(I _ _ _ rfl rfl (j.trans (c.mono (by simp;omega)))).mono ?_;clear I;rintro x w3 ⟨rfl,ac⟩;have ae:=c.size))
  go_ret;exact⟨by simp[k1,k2,g3,k4,k5],BB _ _ (BB _ _ j c) ac⟩
theorem zh8 (D d:Nat) (v:Value) (x:Ex D (d+1)) (w:Zw) (L:ExVal w D d v x) (M:zh7 D d x) (h:Tab w) (j:4<=w.heap.size) :
  ZC 88 #[v] w (.bool (zb0 D d x)):=by
 obtain⟨pt,pn,pp,ct,cn,cp,rfl,U,u,V⟩:=L;obtain⟨s1,s2,Y,G,I,r,Z⟩:=M;have g:=fun W=>shapeOf_any (zfi x) W
 rw[zki]at g;rcases hx:zb8 (zfi x)with _|⟨J,aa,types,named,least,ab⟩
 ·rw[hx]at g;refine(zh9 _ _ _ _ _ _ _ _ _ _ ct cn cp w r s2 _ _ _ _ _ _ _ (zji 0 (xS x)) (zd1 false (xNs x) (xPs x).length) g (fun W c=>zil 0 _ W s1 (h.below c j) (by have:=c.size;omega))
   (fun W m k hm s c=>by subst hm;subst s;exact zhd false _ _ _ _ _ _ _ _ _ _ _ _ _ W (u.below c) G I r (h.below c j) (by have:=c.size;omega))).mono ?_
  rintro e w' ⟨rfl,t⟩;exact⟨by simp[zb0,hx],t⟩
 ·rw[hx]at g;refine(zh9 _ _ _ _ _ _ _ _ _ _ ct cn cp w r s2 _ _ _ _ _ _ _ (zji J (xS x)) (zd1 named (xNs x) (xPs x).length) g (fun W c=>zil J _ W s1 (h.below c j) (by have:=c.size;omega))
   (fun W m k hm s c=>by subst hm;subst s;exact zhd named _ _ _ _ _ _ _ _ _ _ _ _ _ W (u.below c) G I r (h.below c j) (by have:=c.size;omega))).mono ?_
  rintro e w' ⟨rfl,t⟩;exact⟨by simp[zb0,hx],t⟩
def RightXAt (D d:Nat):Prop:=∀(v:Value) (x:Ex D (d+1)) (room:Int) (w:Zw),ExVal w D d v x->zh7 D d x->ExFits D d (xPs x)->0<=room->room<=1000000->Tab w->4<=w.heap.size ->
 ZC 52 #[v,Zi room] w (.bool (za9 D (d+1) room x))
def RightXPart (w0:Zw) (pp:Zo) (k:Nat) (f:Int->Bool):Prop:=
 ∃(g o:Nat) (A K N:Int) (S:Zy) (c h j:Zo) (r s t u x c3:Nat),pp=some ⟨g,o,none⟩/\w0.cell? ⟨g,o+k*7,none⟩=some (Zi A)/\w0.cell? ⟨g,o+k*7+1,none⟩=some (Zi K)/\w0.cell? ⟨g,o+k*7+2,none⟩=some (Zi N)/\w0.cell? ⟨g,o+k*7+3,none⟩=some (.string S) /\
   w0.cell? ⟨g,o+k*7+4,none⟩=some (.slice c r u)/\w0.cell? ⟨g,o+k*7+5,none⟩=some (.slice h s x)/\w0.cell? ⟨g,o+k*7+6,none⟩=some (.slice j t c3) /\
   ∀(room:Int) (W:Zw),0<=room->room<=1000000->ZB w0 W->ZC 52 #[.agg #[Zi A,Zi K,Zi N,.string S,.slice c r u,.slice h s x,.slice j t c3],Zi room] W (.bool (f room))
theorem zis (A K N:Int) (S:Zy) (pt pn pp:Zo) (nt n q ct cn cp:Nat) (room:Int) (w:Zw) (hq:q<=1000000) (h0:0<=room) (h1:room<=1000000) (b1 b2:Bool) (f:Nat->Int->Bool)
  (hS:∀W,ZB w W->ZC 88 #[.agg #[Zi A,Zi K,Zi N,.string S,.slice pt nt ct,.slice pn n cn,.slice pp q cp]] W (.bool b1))
  (hT:∀W,ZB w W->ZC 80 #[.slice pt nt ct,Zi 64] W (.bool b2))
  (hP:∀k,k<q->RightXPart w pp k (f k)) :
  ZC 52 #[.agg #[Zi A,Zi K,Zi N,.string S,.slice pt nt ct,.slice pn n cn,.slice pp q cp],Zi room] w (.bool (!decide (room=0)&&b1&&b2&&zlc q fun i=>f i (room-if i=0/\zdn K=true then 0 else 1))):=by
 obtain⟨O,V⟩:=Ze (.cells #[Zi A,Zi K,Zi N,.string S,.slice pt nt ct,.slice pn n cn,.slice pp q cp] 62:Obj)
 have hb:ZB w (w.alloc O):=(Yu _ _).alloc (Y5 _) O;have M:ZH (∀W:Zw,W.heap[w.heap.size]?=some O->ZL7 W w.heap.size (Zi A) (Zi K) (Zi N) (.string S) (.slice pt nt ct) (.slice pn n cn) (.slice pp q cp)):=fun W a=>by
  rw[V]at a;exact⟨by rw[Y0 a];rfl,by rw[Y0 a];rfl,by rw[Y0 a];rfl,by rw[Y0 a];rfl,by rw[Y0 a];rfl,by rw[Y0 a];rfl,by rw[Y0 a];rfl⟩
 have U:ZH (Zg 88 #[.agg #[Zi A,Zi K,Zi N,.string S,.slice pt nt ct,.slice pn n cn,.slice pp q cp]] (w.alloc (.cells #[Zi A,Zi K,Zi N,.string S,.slice pt nt ct,.slice pn n cn,.slice pp q cp] 62)) fun e w'=>e=.returned (.bool b1)/\ZB w w'/\w'.heap[w.heap.size]?=some O):=by
  show Calls _ _ _ _ _;rw[<-V];exact(hS _ hb).mono fun e w' ⟨h,aa⟩=>⟨h,hb.trans (aa.mono (by simp)),(aa.block _ (by simp)).trans (Jm _ _)⟩
 have ST:ZH (∀W,ZB w W->W.heap[w.heap.size]?=some O->Zg 80 #[.slice pt nt ct,Zi 64] W fun e w'=>e=.returned (.bool b2)/\ZB w w'/\w'.heap[w.heap.size]?=some O):=fun W hW ho=>
  (hT _ hW).mono fun e w' ⟨h,aa⟩=>⟨h,hW.trans (aa.mono hW.size),(aa.block _ (Y8.1 ho).1).trans ho⟩
 have HP:=J3 hP;have HB:=J3 hb;rw[V]at HB;clear hS hT hP hb;by_cases hr:room=0
 ·subst hr;clear U ST HP M V;go_enter Tryz.func52,Tryz.ntmps52;go_wp2;go_ret;exact⟨by simp,HB⟩
 have ae:(!decide (room=0))=true:=by simp[hr]
 rw[ae,XD]
 cases b1
 ·go_enter Tryz.func52,Tryz.ntmps52;go_wp2_with (go_at_call 88;refine U.mono ?_;clear U;rintro x w1 ⟨rfl,ab,Y⟩);go_ret;exact⟨by simp,ab⟩
 cases b2
 ·go_enter Tryz.func52,Tryz.ntmps52;go_wp2_with (first
   | (go_at_call 88;refine U.mono ?_;clear U;rintro x w1 ⟨rfl,ab,Y⟩;obtain⟨c0,c1,c2,c3,c4,c5,c6⟩:=M _ Y)
   | (go_at_call 80;refine(ST _ ab Y).mono ?_;clear ST;rintro x w2 ⟨rfl,ac,ad⟩))
  go_ret;exact⟨by simp,ac⟩
 rw[XD,XD];obtain⟨F,hF⟩:=Ze (fun i=>f i (room-if i=0/\zdn K=true then 0 else 1):Nat->Bool)
 rw[<-hF];have t:=J3 (fun W=>zfr K W);have HF:=J3 hF;have HO:=J3 V;clear V hF ae;go_enter Tryz.func52,Tryz.ntmps52;go_wp2_with (first
  | (go_at_call 88;refine U.mono ?_;clear U;rintro x w1 ⟨rfl,ab,Y⟩;obtain⟨c0,c1,c2,c3,c4,c5,c6⟩:=M _ Y)
  | (go_at_call 80;refine(ST _ ab Y).mono ?_;clear ST;rintro x w2 ⟨rfl,ac,ad⟩;obtain⟨c0,c1,c2,c3,c4,c5,c6⟩:=M _ ad))
 have ah:(room==0)=false:=Y3.2 hr;simp only[ah]
 go_loopw [24] (fun i wr=>∃k:Nat,i=Zi k/\k<=q/\ZH (zlc k F=true)/\ZB w wr/\ZH (wr.heap[w.heap.size]?=some O)) (fun i _=>q-(intOf i).toNat)
 case atStart=>exact⟨0,rfl,by omega,rfl,ac,ad⟩
 case round=>
  obtain⟨k,rfl,hk,HM,u,HOr⟩:=hrel;by_cases af:k<q
  ·have aj:(k:Int)<(q:Int):=by omega
   obtain⟨g,o,A',K',N',S',p1,p2,p3,n1,n2,n3,d1,d2,d3,rfl,a0,a1,a2,a3,a4,a5,a6,wt⟩:=HP k af;have m0:=(u.cell (p:=⟨g,_,none⟩) (J2 a0)).trans a0;have m1:=(u.cell (p:=⟨g,_,none⟩) (J2 a1)).trans a1;have m2:=(u.cell (p:=⟨g,_,none⟩) (J2 a2)).trans a2;have m3:=(u.cell (p:=⟨g,_,none⟩) (J2 a3)).trans a3;have m4:=(u.cell (p:=⟨g,_,none⟩) (J2 a4)).trans a4;have m5:=(u.cell (p:=⟨g,_,none⟩) (J2 a5)).trans a5;have m6:=(u.cell (p:=⟨g,_,none⟩) (J2 a6)).trans a6;have Z:=J3 wt;have ai:=u.size;have ak:=J3 (And.intro (M _ HOr).2.1 (Jm wr (.cells #[Zi A',Zi K',Zi N',.string S',.slice p1 n1 d1,.slice p2 n2 d2,.slice p3 n3 d3] 62)));have G:=J3 (u.alloc ai (.cells #[Zi A',Zi K',Zi N',.string S',.slice p1 n1 d1,.slice p2 n2 d2,.slice p3 n3 d3] 62));have r:ZH ((wr.alloc (.cells #[Zi A',Zi K',Zi N',.string S',.slice p1 n1 d1,.slice p2 n2 d2,.slice p3 n3 d3] 62)).heap[w.heap.size]?=some O):=(((Yu wr.heap.size wr).alloc (Y5 _) _).block _ (Y8.1 HOr).1).trans HOr;obtain⟨x0,x1,x2,x3,x4,x5,x6⟩:=M _ HOr;obtain⟨y0,y1,y2,y3,y4,y5,y6⟩:=M _ r;have HK:ZH (zlc (k+1) F=(zlc k F&&F k)):=zkp k F;have HN:ZH (F k=false->zlc q F=false):=fun h=>allB_no af h
   clear a0 a1 a2 a3 a4 a5 a6 wt HP;have s:F k=f k (room-if k=0/\zdn K=true then 0 else 1):=by rw[J0 HF]
   have e1:IntKind.i64.wrap (room-1)=room-1:=by rw[YJ];omega
   by_cases ag:k=0
   ·obtain rfl:k=0:=ag;simp only[Xt,Xs]at m0 m1 m2 m3 m4 m5 m6;by_cases I:zdn K=true
    ·rw[I]at t;rw[Ye ⟨rfl,I⟩,Int.sub_zero]at s;clear I;obtain⟨z,hz⟩:=Ze (f 0 (room))
     have c:=J3 (J0 Z (room) _ (by omega) (by omega) G);rw[<-hz]at c s;have J:=J3 s;clear hz Z s
     cases z
     ·go_wp2_with (first|(go_at_call 89;refine(t _).mono ?_;clear t;rintro x w4 ⟨rfl,rfl⟩)|(go_at_call 52;refine c.mono ?_;clear c;rintro x w3 ⟨rfl,j⟩;have L:=(j.block _ (Y8.1 r).1).trans r));go_ret;exact⟨by rw[J0 HN (J0 J)];rfl,G.trans (j.mono (by simp;omega))⟩
     ·go_wp2_with (first|(go_at_call 89;refine(t _).mono ?_;clear t;rintro x w4 ⟨rfl,rfl⟩)|(go_at_call 52;refine c.mono ?_;clear c;rintro x w3 ⟨rfl,j⟩;have L:=(j.block _ (Y8.1 r).1).trans r));go_roundw
      case rel=>exact⟨1,by go_num,by omega,(by rw[J0 HK,J0 HM,J0 J];rfl),G.trans (j.mono (by simp;omega)),L⟩
      case measure=>simp[intOf];omega
    ·have I:=(Yb _).mp I;rw[I]at t;rw[Y7 (by rw[I];simp)]at s;clear I;obtain⟨z,hz⟩:=Ze (f 0 (room-1))
     have c:=J3 (J0 Z (room-1) _ (by omega) (by omega) G);rw[<-hz]at c s;have J:=J3 s;clear hz Z s
     cases z
     ·go_wp2_with (first|(go_at_call 89;refine(t _).mono ?_;clear t;rintro x w4 ⟨rfl,rfl⟩)|(go_at_call 52;refine c.mono ?_;clear c;rintro x w3 ⟨rfl,j⟩;have L:=(j.block _ (Y8.1 r).1).trans r));go_ret;exact⟨by rw[J0 HN (J0 J)];rfl,G.trans (j.mono (by simp;omega))⟩
     ·go_wp2_with (first|(go_at_call 89;refine(t _).mono ?_;clear t;rintro x w4 ⟨rfl,rfl⟩)|(go_at_call 52;refine c.mono ?_;clear c;rintro x w3 ⟨rfl,j⟩;have L:=(j.block _ (Y8.1 r).1).trans r));go_roundw
      case rel=>exact⟨1,by go_num,by omega,(by rw[J0 HK,J0 HM,J0 J];rfl),G.trans (j.mono (by simp;omega)),L⟩
      case measure=>simp[intOf];omega
   ·have al:¬(k:Int)=0:=by omega
    rw[Y7 (fun h=>ag h.1)]at s;obtain⟨z,hz⟩:=Ze (f k (room-1))
    have c:=J3 (J0 Z (room-1) _ (by omega) (by omega) G);rw[<-hz]at c s;have J:=J3 s;clear hz Z s
    cases z
    ·go_wp2_with ((go_at_call 52;refine c.mono ?_;clear c;rintro x w3 ⟨rfl,j⟩;have L:=(j.block _ (Y8.1 r).1).trans r));go_ret;exact⟨by rw[J0 HN (J0 J)];rfl,G.trans (j.mono (by simp;omega))⟩
    ·go_wp2_with ((go_at_call 52;refine c.mono ?_;clear c;rintro x w3 ⟨rfl,j⟩;have L:=(j.block _ (Y8.1 r).1).trans r));go_roundw
     case rel=>exact⟨k+1,by go_num,by omega,(by rw[J0 HK,J0 HM,J0 J];rfl),G.trans (j.mono (by simp;omega)),L⟩
     case measure=>simp[intOf];omega
  ·obtain rfl:k=q:=by omega
   go_wp2;go_ret;exact⟨by rw[J0 HM];rfl,u⟩
theorem zfk (D:Nat):∀d,RightXAt D d
 | 0=>fun v x room w G s _ I J t u=>by
  obtain⟨pt,pn,pp,ct,cn,cp,rfl,L,r2,V⟩:=id G;have hq:xPs x=[]:=by
   rcases hx:xPs x with _|⟨y,_⟩
   ·rfl
   ·exact nomatch y
  exact(zis _ _ _ _ pt pn pp _ _ _ ct cn cp room w s.2.2.2.2.2.1 I J _ _ (fun i r=>((xPs x)[i]?.map (za9 D 0 r)).getD true) (fun W j=>zh8 D 0 _ x W (G.below j) s (t.below j u) (by have:=j.size;omega))
   (fun W j=>zbo D _ _ 64 W (TyRow.below j D L) s.2.2.1 (by omega) (by omega) (t.below j u) (by have:=j.size;omega)) (fun k M=>by rw[hq]at M;simp at M)).mono fun e w' h=>h
 | d+1=>fun v x room w G s hf I J t u=>by
  obtain⟨pt,pn,pp,ct,cn,cp,rfl,L,r2,V⟩:=id G;refine(zis _ _ _ _ pt pn pp _ _ _ ct cn cp room w s.2.2.2.2.2.1 I J _ _ (fun i r=>((xPs x)[i]?.map (za9 D (d+1) r)).getD true) (fun W j=>zh8 D (d+1) _ x W (G.below j) s (t.below j u) (by have:=j.size;omega))
   (fun W j=>zbo D _ _ 64 W (TyRow.below j D L) s.2.2.1 (by omega) (by omega) (t.below j u) (by have:=j.size;omega)) (fun k M=>?_)).mono fun e w' h=>h
  obtain⟨p,c,e,hp⟩:=V;injection e with e1 e2 e3
  subst e1;have U:(xPs x)[k]?=some (xPs x)[k]:=by simp
  obtain⟨g,o,vt,vn,vp,rfl,a0,a1,a2,a3,a4,a5,a6,Y,q2,Z⟩:=hp k _ U;obtain⟨f1,f2⟩:=hf.2 _ (YK U);obtain⟨p1,c1,rfl⟩:=Y.slice;obtain⟨p2,c2,rfl,h2⟩:=q2;obtain⟨p3,c3,rfl⟩:=Z.slice;refine⟨g,o,_,_,_,_,_,_,_,_,_,_,_,_,_,rfl,a0,a1,a2,a3,a4,a5,a6,fun r W aa ab j=>?_⟩;rw[U];exact zfk D d _ _ r W (ExVal.below (w:=w) ⟨p1,p2,p3,c1,c2,c3,rfl,Y,⟨p2,c2,rfl,h2⟩,Z⟩ j) f1 f2 aa ab (t.below j u) (by have:=j.size;omega)
end Go.Proofs.YtdcbglnhhbmpgaaGreatDoor
