import Derived.Test.YtdcbglnhhbmpgaaGreatDoorQTypedG
import Derived.Test.YtdcbglnhhbmpgaaGreatDoorQXRef
set_option maxHeartbeats 1000000
set_option maxRecDepth 100000
namespace Go.Proofs.YtdcbglnhhbmpgaaGreatDoor
open Go Go.RowKit Lx
theorem zjo (K:Int) (w:Zw) (c:1<=K) (g:K<=21):Zg 151 #[Zi K] w fun e w'=>e=.returned (Zi (zab K))/\w=w':=by
 rcases kinds c g with h|h|h|h|h|h|h|h|h|h|h|h|h|h|h|h|h|h|h|h|h
 all_goals
  subst h;go_enter Tryz.func151,Tryz.ntmps151;go_wp2;go_ret;exact⟨rfl,rfl⟩
def signS (K:Int):Bs:=if K=15 then[42]else if K=16 then[43]else if K=17 then[45]else if K=18 then[61,61]else if K=19 then[60]else if K=20 then[97,110,100]else[111,114]
theorem rsign_any (K:Int) (w:Zw) (g:15<=K) (j:K<=21):Zg 152 #[Zi K] w fun e w'=>e=.returned (.string ⟨(signS K).toArray⟩)/\w=w':=by
 have c:K=15∨K=16∨K=17∨K=18∨K=19∨K=20∨K=21:=by omega
 rcases c with h|h|h|h|h|h|h
 all_goals
  subst h;go_enter Tryz.func152,Tryz.ntmps152;go_wp2;go_ret;exact⟨rfl,rfl⟩
theorem sign_text {K:Int} (g:15<=K) (j:K<=21):(zjy K).map J5=[signS K]:=by
 have c:K=15∨K=16∨K=17∨K=18∨K=19∨K=20∨K=21:=by omega
 rcases c with h|h|h|h|h|h|h <;> subst h <;> decide +kernel
def zdo (L:List Bs):List Bs:=([40]::L)++[[41]]
def zcx (K a:Int) (L:List Bs):List Bs:=if zab K<a then zdo L else L
theorem aside {L:List Bs} {w W w1:Zw} {g0:Nat} {u:Value} (h:ZB w W) (G:g0=W.heap.size) (hu:W.ownsRow w.heap.size 9 1 u L.length (za8 L)) (hp:0<L.length) (Z:L.length<=900000) (he:w1=W.alloc (.cells #[.string ⟨#[40]⟩] 9)) :
  ∃(v:Value) (g:Zw),(Builtin.append_ #[27,27] 27 #[.slice (Zs g0 0) 1 1,u]).run Tryz.prog w1=.ok v g /\
   ∃(v2:Value) (c:Zw),(Builtin.append_ #[27,27] 27 #[v,.slice (Zs g.heap.size 0) 1 1]).run Tryz.prog (g.alloc (.cells #[.string ⟨#[41]⟩] 9))=.ok v2 c/\c.ownsRow w.heap.size 9 1 v2 (zdo L).length (za8 (zdo L))/\ZB w c:=by
 subst G he;have j:ZB w (W.alloc (.cells #[.string ⟨#[40]⟩] 9)):=bon h (al1 _ _);obtain⟨g2,aa,rfl⟩:=za6 hu hp;have I:=(zc4 W [40]).mono h.size;obtain⟨g3,J,c,M,r⟩:=Left.appends I j.size (by simp;omega) hp (Qb (hu.alloc _));have t:=j.trans r.2.1;have U:c.ownsRow w.heap.size 9 1 (.slice (Zs g3 0) ([[40]].length+L.length) J) ([40]::L).length (za8 ([40]::L)):=r.1;obtain⟨g4,ab,V,Y,x⟩:=Left.append (s:=[41]) U t.size (by simp;omega);exact⟨_,c,M,_,V,Y,by simpa[zdo]using x.1,t.trans x.2.1⟩
theorem at_any (A K N:Int) (S:Zy) (pt pn pp:Zo) (nt nn np ct cn cp:Nat) (a:Int) (L:List Bs) (w:Zw) (k1:1<=K) (k2:K<=21) (hp:0<L.length) (hl:L.length<=900000)
  (V:∀W,ZB w W->Leaves 116 #[.agg #[Zi A,Zi K,Zi N,.string S,.slice pt nt ct,.slice pn nn cn,.slice pp np cp]] W L) :
  Leaves 149 #[.agg #[Zi A,Zi K,Zi N,.string S,.slice pt nt ct,.slice pn nn cn,.slice pp np cp],Zi a] w (zcx K a L):=by
 have G:ZB w (w.alloc (zad A K N S pt pn pp nt nn np ct cn cp)):=al1 _ _;have r:=J3 (V _ G);have s:=J3 G;have c:=J3 (fun W=>zjo K W k1 k2);obtain⟨M,I⟩:=Ze (zcx K a L)
 rw[<-I];have t:=J3 I;clear V G I;obtain⟨lv,g⟩:=Ze (zab K)
 rw[<-g]at c;by_cases Y:lv<a
 ·have J:ZH (M=zdo L):=by show _=_;rw[J0 t,zcx,Ye (by rw[<-g];exact Y)]
  clear t g;go_enter Tryz.func149,Tryz.ntmps149;go_wp2_with fail;refine r.mono ?_;rintro x w1 ⟨⟨u1,rfl,h⟩,j⟩;obtain⟨d0,d1,d2,d3,d4,d5,d6⟩:=Jx j;obtain⟨g2,ac,rfl⟩:=za6 h hp;have u:=bon s j;obtain⟨v2,W4,Z,v3,W5,E3,U,ad⟩:=aside (g0:=w1.heap.size) u rfl (h.mono s.size) hp hl rfl;have aa:=J3 Z;have ab:=J3 E3;clear Z E3 r u;go_wp2_with (first
   | (go_at_call 151;refine(c _).mono ?_;clear c;rintro x w9 ⟨rfl,rfl⟩)
   | (at_builtin;refine J4 rfl (.tmp 13) (.tmp 14) 27 rfl rfl rfl aa ?_;clear aa)
   | (at_builtin;refine J4 rfl (.tmp 15) (.tmp 16) 27 rfl rfl rfl ab ?_;clear ab))
  go_ret;exact⟨⟨_,rfl,by rw[J0 J];exact U⟩,ad⟩
 ·have J:ZH (M=L):=by show _=_;rw[J0 t,zcx,Y7 (by rw[<-g];exact Y)]
  clear t g;go_enter Tryz.func149,Tryz.ntmps149;go_wp2_with fail;refine r.mono ?_;rintro x w1 ⟨⟨u1,rfl,h⟩,j⟩;obtain⟨d0,d1,d2,d3,d4,d5,d6⟩:=Jx j;obtain⟨g2,ac,rfl⟩:=za6 h hp;have u:=bon s j;have U:=h.mono s.size;clear r;go_wp2_with (go_at_call 151;refine(c _).mono ?_;clear c;rintro x w9 ⟨rfl,rfl⟩);go_ret;exact⟨⟨_,rfl,by rw[J0 J];exact U⟩,u⟩
def zk1 (L:Nat->List Bs) (k:Nat):List Bs:=[40]::((List.range k).flatMap fun i=>(if 0<i then[[44]]else[])++L i)
theorem zm5 (L:Nat->List Bs) (k:Nat):zk1 L (k+1)=zk1 L k++(if 0<k then[[44]]else[])++L k:=by
 unfold zk1;rw[YA,YO,X6,List.flatMap_nil,X7,YD,YD,Xe]
theorem argS_le (L:Nat->List Bs) {k n:Nat} (h:k<=n):(zk1 L k).length<=(zk1 L n).length:=by
 induction n with
 | zero=>rw[Nat.le_zero.1 h];exact Y5 _
 | succ n c=>
  rcases Nat.eq_or_lt_of_le h with e|e
  ·rw[e];exact Y5 _
  ·have:=c (by omega);rw[zm5,Y9,Y9];omega
theorem rargs_any (p:Zo) (n c:Nat) (L:Nat->List Bs) (w:Zw) (hn:n<=100000) (hl:(zk1 L n).length<=400000)
  (aj:∀k,k<n->∃u,ExCell w p k u/\0<(L k).length/\∀W,ZB w W->Leaves 116 #[u] W (L k)) :
  Leaves 150 #[.slice p n c] w (zk1 L n++[[41]]):=by
 have HV:=J3 aj;have HL:=J3 (fun k (h:k<=n)=>argS_le L h);clear aj;go_enter Tryz.func150,Tryz.ntmps150;go_wp2
 go_loopw [3,4] (fun o i wr=>∃(k:Nat) (vo:Value),i=Zi k/\o=vo/\k<=n/\ZH (wr.ownsRow w.heap.size 9 1 vo (zk1 L k).length (za8 (zk1 L k))/\ZB w wr)) (fun _ i _=>n-(intOf i).toNat)
 case atStart=>exact⟨0,_,rfl,rfl,by omega,zc4 w [40],Za _ _⟩
 case round=>
  obtain⟨k,vo,rfl,rfl,hk,HO⟩:=hrel;obtain⟨r,U⟩:=J0 HO;obtain⟨pv,cv,rfl,_⟩:=Jh r;have ag:=HL k hk;by_cases ak:k<n
  ·have an:(k:Int)<(n:Int):=by omega
   have al:=HL (k+1) ak;obtain⟨u,⟨g,o,A',K',N',S',qn,qe,q3,n1,c1,n2,c2,n3,c3,rfl,rfl,a0,I,a2,a3,a4,a5,J⟩,ad,HI⟩:=HV k ak;have ae:=J3 (zm5 L k);have af:(zk1 L (k+1)).length=(zk1 L k).length+(if 0<k then 1 else 0)+(L k).length:=by
    rw[zm5,Y9,Y9]
    split <;> rfl
   by_cases M:0<k
   ·have ao:0<(k:Int):=by omega
    rw[Ye M]at af;obtain⟨g1,ap,W4,E,t⟩:=Left.append (s:=[44]) r (by have:=U.size;omega) (by omega);have V:=J3 E;have ah:=J3 t.1;have j:=J3 (U.trans t.2.1);have b0:=(j.cell (p:=⟨g,_,none⟩) (J2 a0)).trans a0;have b1:=(j.cell (p:=⟨g,_,none⟩) (J2 I)).trans I;have b2:=(j.cell (p:=⟨g,_,none⟩) (J2 a2)).trans a2;have b3:=(j.cell (p:=⟨g,_,none⟩) (J2 a3)).trans a3;have b4:=(j.cell (p:=⟨g,_,none⟩) (J2 a4)).trans a4;have b5:=(j.cell (p:=⟨g,_,none⟩) (J2 a5)).trans a5;have b6:=(j.cell (p:=⟨g,_,none⟩) (J2 J)).trans J;have Y:=J3 (HI W4 j);have am:(zk1 L k++[[44]]).length+(L k).length<=1000000:=by simp;omega
    have Z:=J3 ad;have ai:=J3 am;rw[Ye M]at ae;clear E t a0 I a2 a3 a4 a5 J HI r M HO af ag al ad am;go_wp2_with (first
     | (at_builtin;refine J4 rfl (.tmp 14) (.tmp 15) 27 rfl rfl rfl V ?_;clear V)
     | (go_at_call 116;refine Y.mono ?_;clear Y;rintro x w1 ⟨⟨u1,rfl,aa⟩,G⟩;obtain⟨g2,aq,rfl⟩:=za6 aa Z;obtain⟨g3,ar,W5,E2,ab⟩:=Left.appends (ah.kept (Je G) (zan _)) (by have:=j.size;have:=G.size;omega) ai Z (Qb aa);have ac:=J3 E2)
     | (at_builtin;refine J4 rfl (.tmp 17) (.tmp 22) 27 rfl rfl rfl ac ?_;clear ac))
    go_roundw
    case rel=>exact⟨k+1,_,by go_num,rfl,by omega,⟨(by rw[J0 ae];simpa using ab.1),(Zn j G).trans ab.2.1⟩⟩
    case measure=>simp[intOf];omega
   ·have ao:(k:Int)<=0:=by omega
    have ah:=J3 r;have j:=J3 U;rw[Y7 M]at af;have b0:=(j.cell (p:=⟨g,_,none⟩) (J2 a0)).trans a0;have b1:=(j.cell (p:=⟨g,_,none⟩) (J2 I)).trans I;have b2:=(j.cell (p:=⟨g,_,none⟩) (J2 a2)).trans a2;have b3:=(j.cell (p:=⟨g,_,none⟩) (J2 a3)).trans a3;have b4:=(j.cell (p:=⟨g,_,none⟩) (J2 a4)).trans a4;have b5:=(j.cell (p:=⟨g,_,none⟩) (J2 a5)).trans a5;have b6:=(j.cell (p:=⟨g,_,none⟩) (J2 J)).trans J;have Y:=J3 (HI wr j);have Z:=J3 ad;have ai:ZH ((zk1 L k).length+(L k).length<=1000000):=by show _<=_;omega
    rw[Y7 M,X7]at ae;clear a0 I a2 a3 a4 a5 J HI r M HO af ag al ad;go_wp2_with (first
     | (go_at_call 116;refine Y.mono ?_;clear Y;rintro x w1 ⟨⟨u1,rfl,aa⟩,G⟩;obtain⟨g2,aq,rfl⟩:=za6 aa Z;obtain⟨g3,ar,W5,E2,ab⟩:=Left.appends (ah.kept (Je G) (zan _)) (by have:=j.size;have:=G.size;omega) ai Z (Qb aa);have ac:=J3 E2)
     | (at_builtin;refine J4 rfl (.tmp 17) (.tmp 22) 27 rfl rfl rfl ac ?_;clear ac))
    go_roundw
    case rel=>exact⟨k+1,_,by go_num,rfl,by omega,⟨(by rw[J0 ae];simpa using ab.1),(Zn j G).trans ab.2.1⟩⟩
    case measure=>simp[intOf];omega
  ·obtain rfl:k=n:=by omega
   have an:¬(k:Int)<(k:Int):=by omega
   obtain⟨g1,ap,W4,E,t⟩:=Left.append (s:=[41]) r (by have:=U.size;omega) (by omega);have V:=J3 E;have au:=U.trans t.2.1;have av:=t.1;clear E t r HO ag HV HL;go_wp2_with (at_builtin;refine J4 rfl (.tmp 24) (.tmp 25) 27 rfl rfl rfl V ?_;clear V);go_ret;exact⟨⟨_,rfl,by simpa using av⟩,au⟩
abbrev zcu (A K N:Int) (S:Zy) (pt pn pp:Zo) (nt nn np ct cn cp:Nat) (w:Zw) (L:List Bs):Prop:=
 Leaves 116 #[.agg #[Zi A,Zi K,Zi N,.string S,.slice pt nt ct,.slice pn nn cn,.slice pp np cp]] w L
theorem owns_at {w W:Zw} (c:ZB w W) (s:Bs) (g:Nat) (h:g=W.heap.size):(W.alloc (.cells #[.string ⟨s.toArray⟩] 9)).ownsRow w.heap.size 9 1 (.slice (Zs g 0) 1 1) [s].length (za8 [s]):=by
 subst h;exact(zc4 W s).mono c.size
theorem tolds_4 (A N:Int) (S:Bs) (pt pn pp:Zo) (nt nn np ct cn cp:Nat) (w:Zw):zcu A 4 N ⟨S.toArray⟩ pt pn pp nt nn np ct cn cp w [S]:=by
 have c:=J3 (zcm w (zad A 4 N ⟨S.toArray⟩ pt pn pp nt nn np ct cn cp) S);go_enter Tryz.func116,Tryz.ntmps116;go_wp2;go_ret;exact⟨⟨_,rfl,c⟩,al2 _ _ _⟩
theorem tolds_5 (A N:Int) (S:Zy) (pt pn pp:Zo) (nt nn np ct cn cp:Nat) (w:Zw):zcu A 5 N S pt pn pp nt nn np ct cn cp w [[115,101,108,102]]:=by
 have c:=J3 (zcm w (zad A 5 N S pt pn pp nt nn np ct cn cp) [115,101,108,102]);go_enter Tryz.func116,Tryz.ntmps116;go_wp2;go_ret;exact⟨⟨_,rfl,c⟩,al2 _ _ _⟩
theorem tolds_3t (A:Int) (S:Zy) (pt pn pp:Zo) (nt nn np ct cn cp:Nat) (w:Zw):zcu A 3 1 S pt pn pp nt nn np ct cn cp w [[116,114,117,101]]:=by
 have c:=J3 (zcm w (zad A 3 1 S pt pn pp nt nn np ct cn cp) [116,114,117,101]);go_enter Tryz.func116,Tryz.ntmps116;go_wp2;go_ret;exact⟨⟨_,rfl,c⟩,al2 _ _ _⟩
theorem tolds_3f (A:Int) (S:Zy) (pt pn pp:Zo) (nt nn np ct cn cp:Nat) (w:Zw):zcu A 3 0 S pt pn pp nt nn np ct cn cp w [[102,97,108,115,101]]:=by
 have c:=J3 (zcm w (zad A 3 0 S pt pn pp nt nn np ct cn cp) [102,97,108,115,101]);go_enter Tryz.func116,Tryz.ntmps116;go_wp2;go_ret;exact⟨⟨_,rfl,c⟩,al2 _ _ _⟩
theorem tolds_1 (A:Int) (n:Nat) (S:Zy) (pt pn pp:Zo) (nt nn np ct cn cp:Nat) (w:Zw) (h:n<=9223372036854775807):zcu A 1 (n:Int) S pt pn pp nt nn np ct cn cp w [Lib.decDigits n]:=by
 have j:ZB w (w.alloc (zad A 1 (n:Int) S pt pn pp nt nn np ct cn cp)):=al1 _ _;have r:=J3 j;have c:=J3 (Digits_any n h (w.alloc (zad A 1 (n:Int) S pt pn pp nt nn np ct cn cp)));generalize Lib.decDigits n=ds at c ⊢;clear j h;go_enter Tryz.func116,Tryz.ntmps116;go_wp2_with fail;refine c.mono ?_;rintro _ w1 ⟨rfl,s⟩;have g:=bon r s;have t:=J3 (owns_at g ds w1.heap.size rfl);have u:=J3 (bon g (al1 w1 (.cells #[.string ⟨ds.toArray⟩] 9)));clear g s c r;go_wp2_with fail;go_ret;exact⟨⟨_,rfl,t⟩,u⟩
theorem tolds_2 (A N:Int) (S:Bs) (pt pn pp:Zo) (nt nn np ct cn cp:Nat) (w:Zw) (h:S.length<=60000):zcu A 2 N ⟨S.toArray⟩ pt pn pp nt nn np ct cn cp w [quote S]:=by
 have c:ZH (∀W,Zg 101 #[.string ⟨S.toArray⟩] W fun e w'=>e=.returned (.string ⟨(quote S).toArray⟩)/\W=w'):=fun W=>by
  have:=rQuote_any ⟨S.toArray⟩ W (by show S.toArray.size<=_;simp;omega);simpa using this
 have g:=J3 (zcm w (zad A 2 N ⟨S.toArray⟩ pt pn pp nt nn np ct cn cp) (quote S));generalize quote S=ds at c g ⊢;go_enter Tryz.func116,Tryz.ntmps116;go_wp2_with fail;refine(c _).mono ?_;rintro _ w1 ⟨rfl,rfl⟩;go_wp2_with fail;go_ret;exact⟨⟨_,rfl,g⟩,al2 _ _ _⟩
theorem tolds_13 (A N:Int) (S:Zy) (pt pn:Zo) (nt nn ct cn cp:Nat) (w:Zw) (g o:Nat) (L:List Bs) (h j r:Int) (S':Zy) (t u G:Zo) (I J M U V c3:Nat) (hp:0<L.length) (hl:L.length<=900000)
  (a0:w.cell? ⟨g,o,none⟩=some (Zi h)) (Y:w.cell? ⟨g,o+1,none⟩=some (Zi j)) (a2:w.cell? ⟨g,o+2,none⟩=some (Zi r)) (a3:w.cell? ⟨g,o+3,none⟩=some (.string S')) (a4:w.cell? ⟨g,o+4,none⟩=some (.slice t I J)) (a5:w.cell? ⟨g,o+5,none⟩=some (.slice u M U)) (Z:w.cell? ⟨g,o+6,none⟩=some (.slice G V c3))
  (CL:∀W,ZB w W->Leaves 149 #[.agg #[Zi h,Zi j,Zi r,.string S',.slice t I J,.slice u M U,.slice G V c3],Zi 6] W L) :
  zcu A 13 N S pt pn (Zs g o) nt nn 1 ct cn cp w ([45]::L):=by
 have hg:=J2 a0;have aa:ZB w (w.alloc (zad A 13 N S pt pn (Zs g o) nt nn 1 ct cn cp)):=al1 _ _;have c:ZB w ((w.alloc (zad A 13 N S pt pn (Zs g o) nt nn 1 ct cn cp)).alloc (.cells #[.string ⟨#[45]⟩] 9)):=al2 _ _ _;have e0:=Zq c a0;have e1:=Zq c Y;have e2:=Zq c a2;have e3:=Zq c a3;have e4:=Zq c a4;have e5:=Zq c a5;have e6:=Zq c Z;have HC:=J3 (CL _ c);have HB:=J3 aa;clear CL a0 Y a2 a3 a4 a5 Z aa c;go_enter Tryz.func116,Tryz.ntmps116;go_wp2_with (first
  | (go_at_call 149;refine HC.mono ?_;clear HC;rintro x w1 ⟨⟨u1,rfl,ac⟩,ad⟩;obtain⟨v2,W4,E2,ae,af⟩:=ahead (s:=[45]) (g0:=w.heap.size+1) HB (by simp) ad ac hp hl;have ab:=J3 E2)
  | (at_builtin;refine J4 rfl (.tmp 158) (.tmp 163) 27 rfl rfl rfl ab ?_;clear ab))
 go_ret;exact⟨⟨_,rfl,ae⟩,af⟩
theorem tolds_14 (A N:Int) (S:Zy) (pt pn:Zo) (nt nn ct cn cp:Nat) (w:Zw) (g o:Nat) (L:List Bs) (h j r:Int) (S':Zy) (t u G:Zo) (I J M U V c3:Nat) (hp:0<L.length) (hl:L.length<=900000)
  (a0:w.cell? ⟨g,o,none⟩=some (Zi h)) (Y:w.cell? ⟨g,o+1,none⟩=some (Zi j)) (a2:w.cell? ⟨g,o+2,none⟩=some (Zi r)) (a3:w.cell? ⟨g,o+3,none⟩=some (.string S')) (a4:w.cell? ⟨g,o+4,none⟩=some (.slice t I J)) (a5:w.cell? ⟨g,o+5,none⟩=some (.slice u M U)) (Z:w.cell? ⟨g,o+6,none⟩=some (.slice G V c3))
  (CL:∀W,ZB w W->Leaves 149 #[.agg #[Zi h,Zi j,Zi r,.string S',.slice t I J,.slice u M U,.slice G V c3],Zi 6] W L) :
  zcu A 14 N S pt pn (Zs g o) nt nn 1 ct cn cp w ([110,111,116]::L):=by
 have hg:=J2 a0;have aa:ZB w (w.alloc (zad A 14 N S pt pn (Zs g o) nt nn 1 ct cn cp)):=al1 _ _;have c:ZB w ((w.alloc (zad A 14 N S pt pn (Zs g o) nt nn 1 ct cn cp)).alloc (.cells #[.string ⟨#[110,111,116]⟩] 9)):=al2 _ _ _;have e0:=Zq c a0;have e1:=Zq c Y;have e2:=Zq c a2;have e3:=Zq c a3;have e4:=Zq c a4;have e5:=Zq c a5;have e6:=Zq c Z;have HC:=J3 (CL _ c);have HB:=J3 aa;clear CL a0 Y a2 a3 a4 a5 Z aa c;go_enter Tryz.func116,Tryz.ntmps116;go_wp2_with (first
  | (go_at_call 149;refine HC.mono ?_;clear HC;rintro x w1 ⟨⟨u1,rfl,ac⟩,ad⟩;obtain⟨v2,W4,E2,ae,af⟩:=ahead (s:=[110,111,116]) (g0:=w.heap.size+1) HB (by simp) ad ac hp hl;have ab:=J3 E2)
  | (at_builtin;refine J4 rfl (.tmp 167) (.tmp 172) 27 rfl rfl rfl ab ?_;clear ab))
 go_ret;exact⟨⟨_,rfl,ae⟩,af⟩
theorem tolds_6 (A N:Int) (S:Zy) (pn pp:Zo) (nn np ct cn cp:Nat) (w:Zw) (g o:Nat) (L:List Bs) (h:Int) (S':Zy) (j r t:Zo) (u G I J M c3:Nat) (hp:0<L.length) (hl:L.length<=900000)
  (a0:w.cell? ⟨g,o,none⟩=some (Zi h)) (U:w.cell? ⟨g,o+1,none⟩=some (.string S')) (a2:w.cell? ⟨g,o+2,none⟩=some (.slice j u G)) (a3:w.cell? ⟨g,o+3,none⟩=some (.slice r I J)) (a4:w.cell? ⟨g,o+4,none⟩=some (.slice t M c3))
  (V:∀W,ZB w W->Leaves 34 #[.agg #[Zi h,.string S',.slice j u G,.slice r I J,.slice t M c3]] W L) :
  zcu A 6 N S (Zs g o) pn pp 1 nn np ct cn cp w ([110,105,108]::L):=by
 have hg:=J2 a0;have Y:ZB w (w.alloc (zad A 6 N S (Zs g o) pn pp 1 nn np ct cn cp)):=al1 _ _;have c:ZB w ((w.alloc (zad A 6 N S (Zs g o) pn pp 1 nn np ct cn cp)).alloc (.cells #[.string ⟨#[110,105,108]⟩] 9)):=al2 _ _ _;have e0:=Zq c a0;have e1:=Zq c U;have e2:=Zq c a2;have e3:=Zq c a3;have e4:=Zq c a4;have Z:=J3 (V _ c);have HB:=J3 Y;clear V a0 U a2 a3 a4 Y c;go_enter Tryz.func116,Tryz.ntmps116;go_wp2_with (first
  | (go_at_call 34;refine Z.mono ?_;clear Z;rintro x w1 ⟨⟨u1,rfl,ab⟩,ac⟩;obtain⟨v2,W4,E2,ad,ae⟩:=ahead (s:=[110,105,108]) (g0:=w.heap.size+1) HB (by simp) ac ab hp hl;have aa:=J3 E2)
  | (at_builtin;refine J4 rfl (.tmp 39) (.tmp 44) 27 rfl rfl rfl aa ?_;clear aa))
 go_ret;exact⟨⟨_,rfl,ad⟩,ae⟩
end Go.Proofs.YtdcbglnhhbmpgaaGreatDoor
