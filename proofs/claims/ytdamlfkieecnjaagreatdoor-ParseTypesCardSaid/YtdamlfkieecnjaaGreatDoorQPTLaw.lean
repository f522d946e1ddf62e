import Derived.Test.YtdamlfkieecnjaaGreatDoorQPErrno
import Derived.Test.YtdamlfkieecnjaaGreatDoorQRefused
import Derived.Test.YtdamlfkieecnjaaGreatDoorQPWf
import Derived.Test.YtdamlfkieecnjaaGreatDoorQQTypA
set_option maxHeartbeats 2000000
set_option maxRecDepth 100000
namespace Go.Proofs.YtdamlfkieecnjaaGreatDoor
open Go Go.RowKit
theorem ErrType.below {B:Nat} {w w':World} (h:ErrType w) (hb:Below B w w') (hB:4<=B):ErrType w':=(hb.cell (p:=⟨0,0,none⟩) (show 0<B by omega)).trans h
theorem ErrorP_any (b p y:Nat) (hy:ParNo y) (hp:p<=140737488355328) (w:World) (h:RefAt b p y w) (ht:Tab w) (h5:4<=w.heap.size) :
  Calls Tryz.prog 49 #[.pointer (some ⟨b,0,none⟩)] w fun e w'=>(∃s:ByteArray,s.toList.isEmpty=false/\e=.returned (.string s))/\Below w.heap.size w w':=by
 have c0:=h.c0;have c1:=h.c1;have hl:=h.lt;have EN:=J4 (ErrnoP_any y hy);have IT:=J4 (fun W (hW:Tab W)=>Itoa_any (p:Int) (by omega) (by omega) W hW);have hil:=Lib.itoa_length_le (p:Int) (by omega) (by omega);have HB:=J4 (fun W (hb:Below w.heap.size w W)=>(⟨(h.below hb hl).c0,ht.below hb h5⟩:W.cell? ⟨b,0,none⟩=some (.int .i64 (p:Int))/\Tab W));go_enter Tryz.func49,Tryz.ntmps49;go_wp2
 go_region_with (first|(go_at_call 104;refine(J0 EN _).mono ?_;rintro e w1 ⟨⟨s1,hs1,rfl⟩,hb1'⟩;have hb1:=below_of_drew hb1';have hq1:=J0 HB w1 hb1;obtain⟨d1,ht1⟩:=hq1)|(go_at_call 48;refine(Where_any _ _).mono ?_;rintro e w2 ⟨rfl,hb2⟩;have hq2:=J0 HB w2 (hb1.trans (hb2.mono hb1.size));obtain⟨d2,ht2⟩:=hq2)|(go_at_call 105;refine(J0 IT _ ht2).mono ?_;rintro e w3 ⟨rfl,hb3⟩))
 all_goals
  go_wp2;go_ret;exact⟨⟨_,text_not_empty s1 _,rfl⟩,(hb1.trans (hb2.mono hb1.size)).trans (hb3.mono (Nat.le_trans hb1.size hb2.size))⟩
theorem refusedP_any (b p y:Nat) (hy:ParNo y) (hp:p<=140737488355328) (w:World) (h:RefAt b p y w) (hg:ErrType w) (ht:Tab w) (h5:4<=w.heap.size) :
  Calls Tryz.prog 12 #[.iface 94 (.pointer (some ⟨b,0,none⟩)),.int .i64 (p:Int),.int .i64 (y:Int)] w fun e w'=>e=.returned (.bool true)/\Below w.heap.size w w':=by
 have hl:=h.lt;have hba:Below w.heap.size w (w.alloc (.cells #[.pointer none] 94)):=(Below.refl _ _).alloc (Nat.le_refl _) _;have AS:=J4 (as_hit ⟨b,0,none⟩ w.heap.size (.pointer none) (w.alloc (.cells #[.pointer none] 94)) (hg.below hba h5) (Boxed.new w _ _) (by omega));have FF:=J4 (fun W (hb:Below w.heap.size w W)=>(⟨h.below hb hl,ht.below hb h5⟩:RefAt b p y W/\Tab W));have WH:=J4 (Where_any (p:Int));have ER:=J4 (fun W (hr:RefAt b p y W) (hT:Tab W) (h5':4<=W.heap.size)=>ErrorP_any b p y hy hp W hr hT h5');have IS:=J4 (fun W hc=>is_hit b (y:Int) W hc);clear h hg ht;go_enter Tryz.func12,Tryz.ntmps12;go_wp2_with (first
  | (go_at_call 47;refine(J0 AS).mono ?_;rintro e w1 ⟨rfl,hx1,hb1'⟩;have hb1:=hba.trans hb1';obtain⟨hr1,ht1⟩:=J0 FF w1 hb1;have a0:=hr1.c0;have a1:=hr1.c1;have bx:=hx1.cell;have z1:=hx1.lt)
  | (go_at_call 48;refine(J0 WH _).mono ?_;rintro e w2 ⟨rfl,hb2⟩;have hx2:Boxed w2 w.heap.size 94 (.pointer (some ⟨b,0,none⟩)):=(hb2.block _ z1).trans hx1;have hb12:=hb1.trans (hb2.mono hb1.size);obtain⟨hr2,ht2⟩:=J0 FF w2 hb12;have c0:=hr2.c0;have c1:=hr2.c1;have bx2:=hx2.cell;have z2:=hx2.lt)
  | (go_at_call 49;refine(J0 ER _ hr2 ht2 (by omega)).mono ?_;rintro e w3 ⟨⟨s,hs,rfl⟩,hb3⟩;have hx3:Boxed w3 w.heap.size 94 (.pointer (some ⟨b,0,none⟩)):=(hb3.block _ z2).trans hx2;have hb13:=hb12.trans (hb3.mono hb12.size);obtain⟨hr3,ht3⟩:=J0 FF w3 hb13;have d0:=hr3.c0;have d1:=hr3.c1;have bx3:=hx3.cell)
  | (go_at_call 50;refine(J0 IS _ d1).mono ?_;rintro e w4 ⟨rfl,rfl⟩))
 go_ret;exact⟨rfl,hb13⟩
end Go.Proofs.YtdamlfkieecnjaaGreatDoor
namespace Go.Proofs.YtdamlfkieecnjaaGreatDoor
open Go Go.RowKit Lx
def fewB (s:ByteArray) (n:Nat):ByteArray:=if n<s.size then s.extract 0 n else s
theorem fewB_size (s:ByteArray) (n:Nat):(fewB s n).size<=n/\(fewB s n).size<=s.size:=by
 unfold fewB
 split
 ·simp;omega
 ·omega
theorem few_any (s:ByteArray) (n:Nat) (w:World) (_hs:s.size<=9223372036854775807) (_hn:n<=1000000) :
  Calls Tryz.prog 24 #[.string s,.int .i64 n] w fun e w'=>e=.returned (.string (fewB s n))/\w=w':=by
 by_cases h:n<s.size
 ·have HF:Hid (fewB s n=s.extract 0 n):=by show _=_;rw[fewB,if_pos h]
  go_enter Tryz.func24,Tryz.ntmps24;go_wp2;go_ret;exact⟨by rw[J0 HF];rfl,rfl⟩
 ·have HF:Hid (fewB s n=s):=by show _=_;rw[fewB,if_neg h]
  go_enter Tryz.func24,Tryz.ntmps24;go_wp2;go_ret;exact⟨by rw[J0 HF];rfl,rfl⟩
theorem cuts_any (src:ByteArray) (at':Int) (w:World) (hs:src.size<=9223372036854775807) (ha:-9223372036854775808<=at'/\at'<=9223372036854775807) :
  Calls Tryz.prog 9 #[.string src,.int .i64 at'] w fun e w'=>∃(x y:ByteArray) (g:Nat),x.size<=4000/\y.size<=4000/\e=.returned (.slice (some ⟨g,0,none⟩) 2 2)/\w.heap.size<=g/\w'.heap[g]?=some (.cells #[.string x,.string y] 9)/\Below w.heap.size w w':=by
 have h4:=(fewB_size src 4000).1;have F1:=J4 (fun W=>few_any src 4000 W hs (by decide));obtain⟨x,hx⟩:∃x,x=fewB src 4000:=⟨_,rfl⟩
 rw[<-hx]at F1 h4;have WI:=J4 (fun W=>Within_any at' 0 (x.size:Int) W ha.1 ha.2 (by decide) (by omega) (by omega));have F2:=J4 (fun(n:Nat) (hn:n<=1000000) W=>few_any x n W (by omega) hn);clear hx;go_enter Tryz.func9,Tryz.ntmps9;go_upto_region 2 with(go_at_call 24;refine(J0 F1 _).mono ?_;clear F1;rintro e w2 ⟨rfl,rfl⟩)
 go_wp2_with (first|(go_at_call 40;refine(J0 WI _).mono ?_;clear WI;rintro e w3 ⟨⟨r,rfl,r1,r2⟩,rfl⟩;obtain⟨n,rfl⟩:=Int.eq_ofNat_of_zero_le r1;have F3:=J4 (J0 F2 n (by omega));clear F2)|(go_at_call 24;refine(J0 F3 _).mono ?_;clear F3;rintro e w4 ⟨rfl,rfl⟩));go_ret;exact⟨x,fewB x n,_,h4,Nat.le_trans (fewB_size x n).2 h4,rfl,Nat.le_refl _,J6 _ _,zb2 _⟩
theorem zen {W:World} {g i:Nat} {x y:ByteArray} (h:W.heap[g]?=some (.cells #[.string x,.string y] 9)) (hi:i<2):W.cell? ⟨g,i,none⟩=some (.string (if i=0 then x else y)):=by
 rw[Lib.cell_of_heap h]
 match i,hi with
 | 0,_=>rfl
 | 1,_=>rfl
theorem ParseTypes_any (src:ByteArray) (at':Int) (w:World) (hs:src.size<=9223372036854775807) (ha:-9223372036854775808<=at'/\at'<=9223372036854775807) (hg:ErrType w) (ht:Tab w) (h5:4<=w.heap.size) (hPR:∀W,Below w.heap.size w W->Calls Tryz.prog 14 #[] W fun e w'=>e=.returned (.bool true)/\Below W.heap.size W w') :
  Calls Tryz.prog 3 #[.string src,.int .i64 at'] w fun e w'=>e=.returned (.bool true)/\Below w.heap.size w w':=by
 have CU:=J4 (cuts_any src at' w hs ha);have PR:=J4 hPR;have HG:=J4 hg;have HT:=J4 ht;clear hPR hg ht hs ha;go_enter Tryz.func3,Tryz.ntmps3;go_wp2_with (go_at_call 9;refine(J0 CU).mono ?_;clear CU;rintro e w2 ⟨x,y,g,hx,hy,rfl,g1,g2,g3⟩;have G2:=J4 g2;have G3:=J4 g3;clear g2 g3)
 go_loopg [6,7,8,9,10,11] 2 (fun gk v6 v7 v8 v9 v10 v11 wr=>∃i:Nat,i+gk=2/\v6=.int .i64 (i:Int)/\Hid (wr.heap[g]?=some (.cells #[.string x,.string y] 9))/\Hid (Below w.heap.size w wr))
 case atStart=>exact⟨0,rfl,rfl,J0 G2,J0 G3⟩
 case round=>
  clear G2 G3;obtain⟨i,hi,rfl,HC,HB⟩:=hrel;by_cases hlt:i<2
  ·obtain⟨z,hz⟩:∃z,z=(if i=0 then x else y):=⟨_,rfl⟩
   have hz4:z.size<=4000:=by rw[hz];split <;> assumption
   have hc0:=zen (J0 HC) hlt;rw[<-hz]at hc0;have HL:Hid (z.data.toList.length<=4000):=by
    show _<=_;rw[Array.length_toList];exact hz4
   have hw1:IntKind.i64.wrap ((i:Int)+1)=(i:Int)+1:=by rw[IntKind.wrap_i64];omega
   have hlt':(i:Int)<2:=by omega
   have TY:=J4 (Type_any z (by omega) wr);have RQ:=J4 (fun W=>TypeQ_any z (by omega) W);unfold AnsT at TY;unfold AnsQ at RQ;have WF:=J4 (pType_wf (J0 HL));have NO:=J4 (fun r (h:(zby z.data.toList).1=some r)=>pType_no h);obtain⟨o,ho⟩:∃o,o=(zby z.data.toList).1:=⟨_,rfl⟩
   obtain⟨t,ht⟩:∃t,t=(zby z.data.toList).2:=⟨_,rfl⟩
   rw[<-ho,<-ht]at TY RQ;rw[<-ho]at NO;rw[<-ht]at WF;clear ho ht;have hgl:g<wr.heap.size:=(Array.getElem?_eq_some_iff.1 (J0 HC)).1;have HZ:=J4 hz;clear hz
   cases o with
   | none=>
    clear NO;go_upto_region 6 with(go_at_call 10;refine(J0 TY).mono ?_;clear TY;rintro e w3 ⟨r1,K,S,pn,pe,pp,nn,cn,ne,ce,np,cp,rfl,r2⟩;have R1:=J4 r1;have R2:=J4 r2;clear r1 r2)
    obtain⟨W5,hW5⟩:∃W5:World,W5=w3.alloc (.cells #[.int .i64 K,.string S,.slice pn nn cn,.slice pe ne ce,.slice pp np cp] 27):=⟨_,rfl⟩
    have C5:Hid (W5.heap[g]?=some (.cells #[.string x,.string y] 9)):=by
     have h1:=((J0 R1).block g hgl).trans (J0 HC);show _=_;rw[hW5];exact(J9 _ _ (Array.getElem?_eq_some_iff.1 h1).1).trans h1
    have hc5:=zen (J0 C5) hlt;rw[<-J0 HZ]at hc5;have B5:Hid (Below w.heap.size w W5):=by
     show Below _ _ _;rw[hW5];exact((J0 HB).trans ((J0 R1).mono (J0 HB).size)).alloc (Nat.le_trans (J0 HB).size (J0 R1).size) _
    have D5:Hid (W5.heap[w3.heap.size]?=some (.cells #[.int .i64 K,.string S,.slice pn nn cn,.slice pe ne ce,.slice pp np cp] 27)):=by
     show _=_;rw[hW5];exact J6 _ _
    have hs5:W5.heap.size=w3.heap.size+1:=by rw[hW5];simp
    have K5:Hid (∀j,j<w3.heap.size->W5.heap[j]?=w3.heap[j]?):=fun j hj=>by rw[hW5];exact J9 _ _ hj
    rw[<-hW5];clear hW5 hc0;go_upto_region 7 with(go_at_call 11;refine(J0 RQ _).mono ?_;clear RQ;rintro e w6 ⟨r3,K2,S2,pn2,pe2,pp2,nn2,cn2,ne2,ce2,np2,cp2,rfl,r4⟩;have R3:=J4 r3;have R4:=J4 r4;clear r3 r4)
    obtain⟨W7,hW7⟩:∃W7:World,W7=w6.alloc (.cells #[.int .i64 K2,.string S2,.slice pn2 nn2 cn2,.slice pe2 ne2 ce2,.slice pp2 np2 cp2] 27):=⟨_,rfl⟩
    have hs6:=(J0 R3).size;have K7:Hid (∀j,j<w6.heap.size->W7.heap[j]?=w6.heap[j]?):=fun j hj=>by rw[hW7];exact J9 _ _ hj
    have D7:=(J0 K7 w3.heap.size (by omega)).trans (((J0 R3).block w3.heap.size (by omega)).trans (J0 D5));have E7:W7.heap[w6.heap.size]?=some (.cells #[.int .i64 K2,.string S2,.slice pn2 nn2 cn2,.slice pe2 ne2 ce2,.slice pp2 np2 cp2] 27):=by rw[hW7];exact J6 _ _
    have B7:Hid (Below w.heap.size w W7):=by
     show Below _ _ _;rw[hW7];exact((J0 B5).trans ((J0 R3).mono (J0 B5).size)).alloc (Nat.le_trans (J0 B5).size (J0 R3).size) _
    have hg5:g<W5.heap.size:=(Array.getElem?_eq_some_iff.1 (J0 C5)).1;have C7:Hid (W7.heap[g]?=some (.cells #[.string x,.string y] 9)):=(J0 K7 g (by omega)).trans (((J0 R3).block g hg5).trans (J0 C5));have hs1:=(J0 R1).size;have v1:TyV W7 64 (Jc K S pn pe pp nn cn ne ce np cp) t:=J0 R2 W7 fun j j1 j2=>(J0 K7 j (by omega)).trans (((J0 R3).block j (by omega)).trans (J0 K5 j j2))
    have v2:TyV W7 64 (Jc K2 S2 pn2 pe2 pp2 nn2 cn2 ne2 ce2 np2 cp2) t:=J0 R4 W7 fun j j1 j2=>J0 K7 j j2
    have KT:=J4 (ze6 65 t t _ _ W7 true (by simp) v1 v2 (J0 WF) (J0 WF));obtain⟨⟨a0,a1,a2,a3,a4⟩,-⟩:=J8 D7;obtain⟨⟨b0,b1,b2,b3,b4⟩,-⟩:=J8 E7;rw[<-hW7];clear hW7 hc5 v1 v2 D7 E7 K7 K5 D5 R3 R4 R2;go_wp2_with (go_at_call 13;refine(J0 KT).mono ?_;clear KT;rintro e w8 ⟨rfl,q1⟩;have Q1:=J4 q1;clear q1);go_roundg (gk-1)
    case measure=>omega
    case rel=>exact⟨i+1,by omega,by simp,((J0 Q1).block g (Array.getElem?_eq_some_iff.1 (J0 C7)).1).trans (J0 C7),(J0 B7).trans ((J0 Q1).mono (J0 B7).size)⟩
   | some r=>
    obtain⟨p,q,rfl,hno,hp⟩:=J0 NO r rfl;clear NO WF;go_upto_region 6 with(go_at_call 10;refine(J0 TY).mono ?_;clear TY;rintro e w3 ⟨r1,k,rfl,r2⟩;have R1:=J4 r1;have R2:=J4 r2;clear r1 r2)
    obtain⟨W5,hW5⟩:∃W5:World,W5=w3.alloc tyO:=⟨_,rfl⟩
    have C5:Hid (W5.heap[g]?=some (.cells #[.string x,.string y] 9)):=by
     have h1:=((J0 R1).block g hgl).trans (J0 HC);show _=_;rw[hW5];exact(J9 _ _ (Array.getElem?_eq_some_iff.1 h1).1).trans h1
    have hc5:=zen (J0 C5) hlt;rw[<-J0 HZ]at hc5;have B5:Hid (Below w.heap.size w W5):=by
     show Below _ _ _;rw[hW5];exact((J0 HB).trans ((J0 R1).mono (J0 HB).size)).alloc (Nat.le_trans (J0 HB).size (J0 R1).size) _
    have D5:Hid (W5.heap[w3.heap.size]?=some tyO):=by
     show _=_;rw[hW5];exact J6 _ _
    have hk3:k<w3.heap.size:=(Array.getElem?_eq_some_iff.1 (J0 R2)).1;have F5:Hid (W5.heap[k]?=some (refO (p:Int) (q:Int))):=by
     show _=_;rw[hW5];exact(J9 _ _ hk3).trans (J0 R2)
    have hs5:W5.heap.size=w3.heap.size+1:=by rw[hW5];simp
    rw[<-hW5];clear hW5 hc0;go_upto_region 7 with(go_at_call 11;refine(J0 RQ _).mono ?_;clear RQ;rintro e w6 ⟨r3,rfl,r4⟩;have R3:=J4 r3;have R4:=J4 r4;clear r3 r4)
    obtain⟨W7,hW7⟩:∃W7:World,W7=w6.alloc tyO:=⟨_,rfl⟩
    have hs6:=(J0 R3).size;have K7:Hid (∀j,j<w6.heap.size->W7.heap[j]?=w6.heap[j]?):=fun j hj=>by rw[hW7];exact J9 _ _ hj
    have D7:Hid (W7.heap[w3.heap.size]?=some tyO):=(J0 K7 w3.heap.size (by omega)).trans (((J0 R3).block w3.heap.size (by omega)).trans (J0 D5));have E7:Hid (W7.heap[w6.heap.size]?=some tyO):=by
     show _=_;rw[hW7];exact J6 _ _
    have F7:RefAt k p q W7:=(J0 K7 k (by omega)).trans (((J0 R3).block k (by omega)).trans (J0 F5));have B7:Hid (Below w.heap.size w W7):=by
     show Below _ _ _;rw[hW7];exact((J0 B5).trans ((J0 R3).mono (J0 B5).size)).alloc (Nat.le_trans (J0 B5).size (J0 R3).size) _
    have hg5:g<W5.heap.size:=(Array.getElem?_eq_some_iff.1 (J0 C5)).1;have C7:Hid (W7.heap[g]?=some (.cells #[.string x,.string y] 9)):=(J0 K7 g (by omega)).trans (((J0 R3).block g hg5).trans (J0 C5));have hs7:=(J0 B7).size;have RF:=J4 (refusedP_any k p q hno (by have:=J0 HL;omega) W7 F7 ((J0 HG).below (J0 B7) h5) ((J0 HT).below (J0 B7) h5) (by omega));have hq0:((q:Int)==0)=false:=by simpa using J0 R4
    have hq1:decide ((q:Int)=0)=false:=by simpa using J0 R4
    have hq2:((q:Int) != 0)=true:=by simpa using J0 R4
    have KT:=J4 (fun W=>ze6 65 (zTy 64) (zTy 64) tyZ tyZ W true (by simp) (zTyV W 64) (zTyV W 64) (zeo 64) (zeo 64));rw[<-hW7];clear hW7 hc5 K7 D5 F5 F7 R2 R4;go_wp2_with (first|(go_at_call 12;refine(J0 RF).mono ?_;clear RF;rintro e w8 ⟨rfl,q1⟩;have Q1:=J4 q1;have d8:=(q1.block w3.heap.size (Array.getElem?_eq_some_iff.1 (J0 D7)).1).trans (J0 D7);have e8:=(q1.block w6.heap.size (Array.getElem?_eq_some_iff.1 (J0 E7)).1).trans (J0 E7);obtain⟨⟨a0,a1,a2,a3,a4⟩,-⟩:=J8 d8;obtain⟨⟨b0,b1,b2,b3,b4⟩,-⟩:=J8 e8;clear q1 d8 e8)|(go_at_call 13;refine(J0 KT _).mono ?_;clear KT;rintro e w9 ⟨rfl,q2⟩;have Q2:=J4 q2;clear q2));have B8:Below w.heap.size w w8:=(J0 B7).trans ((J0 Q1).mono (J0 B7).size);have C8:=((J0 Q1).block g (Array.getElem?_eq_some_iff.1 (J0 C7)).1).trans (J0 C7);go_roundg (gk-1)
    case measure=>omega
    case rel=>exact⟨i+1,by omega,by simp,((J0 Q2).block g (Array.getElem?_eq_some_iff.1 C8).1).trans C8,B8.trans ((J0 Q2).mono B8.size)⟩
  ·have hlt':¬(i:Int)<2:=by omega
   have PW:=J4 (J0 PR _ (J0 HB));go_wp2_with (go_at_call 14;refine(J0 PW).mono ?_;clear PW;rintro e w9 ⟨rfl,q1⟩;have Q1:=J4 q1;clear q1);go_ret;exact⟨rfl,(J0 HB).trans ((J0 Q1).mono (J0 HB).size)⟩
end Go.Proofs.YtdamlfkieecnjaaGreatDoor
