import Derived.Test.YtdcbglnhhbmpgaaGreatDoorQCdF
set_option maxHeartbeats 2000000
set_option maxRecDepth 100000
namespace Go.Proofs.YtdcbglnhhbmpgaaGreatDoor
open Go Go.RowKit Lx
def vC14 (g0 g c k:Nat) (vs:Value) (s:Zy) (vt:Value):List (Option Value):=[none,some (.pointer (Zs g0 3)),some (vs),some (Zi (k:Int)),some (.pointer (Zs g (c+k*6))),some (.pointer (Zs g (c+k*6))),some (.string s),none,none,some (.pointer (Zs g0 3)),some (vs),some (Zi (k:Int)),some (.pointer (Zs g (c+k*6))),some (.pointer (Zs g (c+k*6+1))),some (vt),none,none,none]
def vC16 (g0:Nat) (vt vb:Value):List (Option Value):=[none,some (.pointer (Zs g0 4)),some (vt),none,none,some (.pointer (Zs g0 9)),some (vb),none,none,none]
section
variable {o:Oper} {a:Act} {w:Zw} {K:Act->Zw->Prop} {Q:Exit->Act->Zw->Prop}
theorem op_fieldC4 {x:Operand} {b:Nat} (c:o.op=.fieldAddr 34 x 4) (g:a.eval x=.pointer (Zs b 0)) (h:K (a.put o.dst (.pointer (Zs b 4))) w):o.wp Tryz.prog a w K Q:=by
 unfold Oper.wp;simp only[execOp,c,g];go_simp;exact h
theorem op_fieldC5 {x:Operand} {b:Nat} (c:o.op=.fieldAddr 34 x 5) (g:a.eval x=.pointer (Zs b 0)) (h:K (a.put o.dst (.pointer (Zs b 9))) w):o.wp Tryz.prog a w K Q:=by
 unfold Oper.wp;simp only[execOp,c,g];go_simp;exact h
end
theorem owns_new3 (w:Zw) (s t u:Bs):(w.alloc (.cells #[.string ⟨s.toArray⟩,.string ⟨t.toArray⟩,.string ⟨u.toArray⟩] 9)).ownsRow w.heap.size 9 1 (.slice (Zs w.heap.size 0) 3 3) [s,t,u].length (za8 [s,t,u]):=
 ⟨rfl,.inr ⟨w.heap.size,3,_,rfl,Y5 _,Jm w _,Y5 _,by decide,rfl,rfl⟩⟩
theorem owns_new4 (w:Zw) (s t u v:Bs):(w.alloc (.cells #[.string ⟨s.toArray⟩,.string ⟨t.toArray⟩,.string ⟨u.toArray⟩,.string ⟨v.toArray⟩] 9)).ownsRow w.heap.size 9 1 (.slice (Zs w.heap.size 0) 4 4) [s,t,u,v].length (za8 [s,t,u,v]):=
 ⟨rfl,.inr ⟨w.heap.size,4,_,rfl,Y5 _,Jm w _,Y5 _,by decide,rfl,rfl⟩⟩
theorem zh2 {base:Nat} {v:Value} {A ms:List Bs} {W:Zw} {O:Obj} {n:Nat} (h:W.ownsRow base 9 1 v A.length (za8 A)) (r:base<=W.heap.size) (s:(W.alloc O).ownsRow W.heap.size 9 1 (.slice (Zs W.heap.size 0) n n) ms.length (za8 ms)) (hm:0<ms.length) (u:A.length+ms.length<=1000000) :
  ∃(g k cap:Nat) (j:Zw),(Builtin.append_ #[27,27] 27 #[v,.slice (Zs W.heap.size 0) n n]).run Tryz.prog (W.alloc O)=.ok (.slice (Zs g 0) k cap) j/\j.ownsRow base 9 1 (.slice (Zs g 0) k cap) (A++ms).length (za8 (A++ms))/\Below base W j:=by
 have x:n=ms.length:=by
  obtain⟨p,c,e,_⟩:=Jh s;injection e
 subst x;obtain⟨g,cap,j,E,t⟩:=Left.appends (h.alloc _) (Yh r (al1 W O).size) u hm (Qb s);exact⟨g,_,cap,j,E,by simpa using t.1,((Yu base W).alloc r _).trans t.2.1⟩
theorem zms {N:Zy} {l:Bs} (h:N=⟨l.toArray⟩):N.toList.isEmpty=l.isEmpty:=by
 rcases JK h with⟨e,c⟩|⟨e,c⟩
 ·rw[c,e];kernel_rfl
 ·rw[c]
  cases h:N.toList with
  | nil=>rw[h]at e;simp at e
  | cons=>rfl
def hdS (o n:Bs):List Bs:=if o.isEmpty=false then[[109,101,116,104,111,100],o,[46],n]else if n.isEmpty=false then[[102,117,110,99],n]else[[109,97,105,110]]
def parS (hd:List Bs) (ns:List Bs) (c:Nat->List Bs) (k:Nat):List Bs:=hd++(List.range k).flatMap fun i=>(if 0<i then[[44]]else[])++[ns.getD i []]++c i
theorem zmn (hd:List Bs) (ns:List Bs) (c:Nat->List Bs) (k:Nat):parS hd ns c (k+1)=parS hd ns c k++(if 0<k then[[44]]else[])++[ns.getD k []]++c k:=by
 unfold parS;rw[YA,YO];simp
theorem parS_le (hd:List Bs) (ns:List Bs) (c:Nat->List Bs) {k n:Nat} (h:k<=n):(parS hd ns c k).length<=(parS hd ns c n).length:=by
 induction n with
 | zero=>rw[Nat.le_zero.1 h];exact Y5 _
 | succ n g=>
  rcases Nat.eq_or_lt_of_le h with e|e
  ·rw[e];exact Y5 _
  ·have:=g (by omega);rw[zmn,Y9,Y9,Y9];omega
def midS (n:Bs) (hd ns:List Bs) (c:Nat->List Bs) (q:Nat):List Bs:=if n.isEmpty=false then parS (hd++[[40]]) ns c q++[[41]]else hd
theorem hd_le (o n:Bs):(hdS o n).length<=4:=by
 unfold hdS
 split
 ·simp
 ·split <;> simp
theorem coded_run (A K:Int) (O N S:Zy) (o aa:Bs) (pq pn pe pp pb:Zo) (nq cq nn cn ne ce np cp nb cb:Nat) (w:Zw) (ns:List Bs) (t:Nat->List Bs) (LT LB:List Bs) (hO:O=⟨o.toArray⟩) (hN:N=⟨aa.toArray⟩) (hn:nq=ns.length) (bh:nq<=60000) (hl:(midS aa (hdS o aa) ns t nq).length<=500000) (bi:LT.length<=100000) (bj:LB.length<=300000) (ax:0<LT.length)
  (hP:∀k,k<nq->∃(g o':Nat) (y:T5),pq=some ⟨g,o',none⟩/\w.cell? ⟨g,o'+k*6,none⟩=some (.string ⟨(ns.getD k []).toArray⟩)/\T5At w g (o'+k*6+1) y/\0<(t k).length/\∀W,ZB w W->Leaves 34 #[y.val] W (t k))
  (hT:∀W,ZB w W->Leaves 34 #[(.agg #[Zi K,.string S,.slice pn nn cn,.slice pe ne ce,.slice pp np cp])] W LT) (hB:∀W,ZB w W->Leaves 45 #[.slice pb nb cb] W (zh5 LB)) :
  Leaves 13 #[(.agg #[Zi A,.string O,.string N,.slice pq nq cq,Zi K,.string S,.slice pn nn cn,.slice pe ne ce,.slice pp np cp,.slice pb nb cb])] w (midS aa (hdS o aa) ns t nq++LT++zh5 LB):=by
 have HO:=J3 hO;have HN:=J3 hN;have bk:=J3 hn;have HP:=J3 hP;have HT:=J3 hT;have HK:=J3 hB;have HS:=J3 hl;obtain⟨hd,ay⟩:=Ze (hdS o aa)
 have bl:hd.length<=4:=by rw[ay];exact hd_le o aa
 rw[<-ay]at HS ⊢;obtain⟨LE,aC⟩:∃L,L=midS aa hd ns t nq++LT++zh5 LB:=⟨_,rfl⟩
 rw[<-aC];have aW:=J3 aC;have aD:=J3 ay;clear hO hN hn hP hT hB hl ay aC;go_enter Tryz.func13,Tryz.ntmps13;go_upto_block 0 with fail
 obtain⟨W0,az⟩:=Ze (w.alloc (Obj.cells #[Zi A,.string O,.string N,.slice pq nq cq,Zi K,.string S,.slice pn nn cn,.slice pe ne ce,.slice pp np cp,.slice pb nb cb] 34):Zw)
 obtain⟨g0,aE⟩:∃g:Nat,g=w.heap.size:=⟨_,rfl⟩
 rw[<-az,<-aE];have C0:ZH (ZL10 W0 g0 (Zi A) (.string O) (.string N) (.slice pq nq cq) (Zi K) (.string S) (.slice pn nn cn) (.slice pe ne ce) (.slice pp np cp) (.slice pb nb cb)):=by rw[az,aE];exact zbr (x:=⟨A,O,N,pq,nq,cq,⟨K,S,pn,pe,pp,nn,cn,ne,ce,np,cp⟩,pb,nb,cb⟩) Zr
 have H0:ZH (ZB w W0):=by rw[az];exact Za _ _
 clear az aE;have am:ZH (∀V,ZB W0 V->ZB w V):=fun V h=>Zn H0 h
 have CC:ZH (∀V,ZB W0 V->ZL10 V g0 (Zi A) (.string O) (.string N) (.slice pq nq cq) (Zi K) (.string S) (.slice pn nn cn) (.slice pe ne ce) (.slice pp np cp) (.slice pb nb cb)):=fun V h=>zbp C0 h
 obtain⟨c0,c1,c2,c3,c4,c5,c6,c7,c8,c9⟩:=J0 C0
 go_cut [3] (fun o wx=>∃(vo:Value) (Wy:Zw),vo=o/\Wy=wx/\ZH (Wy.ownsRow W0.heap.size 9 1 vo (hd).length (za8 (hd)))/\ZH (ZB W0 Wy))
 case first=>
  rcases JK HO with⟨e1,e2⟩|⟨e1,e2⟩
  rotate_left
  ·obtain⟨g1,k1,af,W4,E,J,ab⟩:=zh2 (W:=W0) (v:=Zz) (A:=[]) (YU W0 W0.heap.size 9 1) (Y5 _) (owns_new4 W0 [109,101,116,104,111,100] o [46] aa) (by simp) (by simp);rw[<-J0 HO,<-J0 HN]at E;have HE:=J3 E;have HR:ZH (W4.ownsRow W0.heap.size 9 1 (.slice (Zs g1 0) k1 af) hd.length (za8 hd)):=by rw[J0 aD,hdS,Ye e2];exact J
   have ae:=J3 ab;clear E J ab e2;go_wp2_with (at_builtin;refine J4 rfl (.tmp 12) (.tmp 17) 27 rfl rfl rfl HE ?_;clear HE);go_meet
   case rel=>exact⟨_,_,rfl,rfl,HR,ae⟩
  ·subst e1;rcases JK HN with⟨e3,U⟩|⟨e3,U⟩
   rotate_left
   ·obtain⟨g1,k1,af,W4,E,J,ab⟩:=zh2 (W:=W0) (v:=Zz) (A:=[]) (YU W0 W0.heap.size 9 1) (Y5 _) (zi5 W0 [102,117,110,99] aa) (by simp) (by simp);rw[<-J0 HN]at E;have HE:=J3 E;have HR:ZH (W4.ownsRow W0.heap.size 9 1 (.slice (Zs g1 0) k1 af) hd.length (za8 hd)):=by rw[J0 aD,hdS,Y7 (by rw[e2];simp),Ye U];exact J
    have ae:=J3 ab;clear E J ab e2 U;go_wp2_with (at_builtin;refine J4 rfl (.tmp 23) (.tmp 26) 27 rfl rfl rfl HE ?_;clear HE);go_meet
    case rel=>exact⟨_,_,rfl,rfl,HR,ae⟩
   ·subst e3;obtain⟨g1,k1,af,W4,E,J,ab⟩:=zh2 (W:=W0) (v:=Zz) (A:=[]) (YU W0 W0.heap.size 9 1) (Y5 _) (zc4 W0 [109,97,105,110]) (by simp) (by simp);have HE:=J3 E;have HR:ZH (W4.ownsRow W0.heap.size 9 1 (.slice (Zs g1 0) k1 af) hd.length (za8 hd)):=by rw[J0 aD,hdS,Y7 (by rw[e2];simp),Y7 (by rw[U];simp)];exact J
    have ae:=J3 ab;clear E J ab e2 U;go_wp2_with (at_builtin;refine J4 rfl (.tmp 5) (.tmp 6) 27 rfl rfl rfl HE ?_;clear HE);go_meet
    case rel=>exact⟨_,_,rfl,rfl,HR,ae⟩
 case rest=>
 obtain⟨vo,Wa,rfl,rfl,an,al⟩:=hcut;clear c0 c1 c2 c3 c4 c5 c6 c7 c8 c9 C0;obtain⟨c0,c1,c2,c3,c4,c5,c6,c7,c8,c9⟩:=CC _ al;go_upto_if 30 with fail
 go_cut [3] (fun o wx=>∃(vo:Value) (Wy:Zw),vo=o/\Wy=wx/\ZH (Wy.ownsRow W0.heap.size 9 1 vo (midS aa hd ns t nq).length (za8 (midS aa hd ns t nq)))/\ZH (ZB W0 Wy))
 case first=>
  rcases JK HN with⟨e3,U⟩|⟨e3,U⟩
  ·have e5:N.toList.isEmpty=true:=(zms HN).trans U;have HR:ZH (Wa.ownsRow W0.heap.size 9 1 vo (midS aa hd ns t nq).length (za8 (midS aa hd ns t nq))):=by rw[midS,Y7 (by rw[U];simp)];exact an
   clear U;rw[e5];go_wp2_with fail;go_meet
   case rel=>exact⟨_,_,rfl,rfl,HR,al⟩
  ·obtain⟨g1,k1,af,Wc,E,J,ab⟩:=zh2 (ms:=[[40]]) an al.size (zc4 Wa [40]) (by simp) (by simp;omega);obtain⟨ac,aF⟩:∃L,L=hd++[[40]]:=⟨_,rfl⟩
   have aX:ZH (midS aa hd ns t nq=parS ac ns t nq++[[41]]):=by show _=_;rw[midS,Ye U,aF]
   rw[<-aF]at J;have HE:=J3 E;have aY:=J3 J;have aZ:=J3 (al.trans ab);have a1:ZH ((parS ac ns t nq).length<=600000):=by have:=J0 HS;rw[J0 aX]at this;show _<=_;rw[Y9]at this;omega
   obtain⟨bm,bn,rfl,_⟩:=Jh an;have e5:N.toList.isEmpty=false:=(zms HN).trans U;clear E J ab U aF an al e3;rw[e5];go_wp2_with (at_builtin;refine J4 rfl (.tmp 31) (.tmp 32) 27 rfl rfl rfl HE ?_;clear HE);clear c0 c1 c2 c3 c4 c5 c6 c7 c8 c9
   go_loopg [3,4] nq (fun gk o i wr=>∃(k:Nat) (vo:Value),i=Zi k/\vo=o/\k+gk=nq/\ZH (wr.ownsRow W0.heap.size 9 1 vo (parS ac ns t k).length (za8 (parS ac ns t k))/\ZB W0 wr))
   case atStart=>exact⟨0,_,rfl,rfl,by omega,(by rw[show parS ac ns t 0=ac from by simp[parS]];exact aY),aZ⟩
   case round=>
    obtain⟨k,vo,rfl,rfl,hk,ao⟩:=hrel;clear aY aZ;obtain⟨ho,Y⟩:=J0 ao;have aG:=parS_le ac ns t (show k<=nq by omega);have a2:=J0 a1;obtain⟨c0,c1,c2,c3,c4,c5,c6,c7,c8,c9⟩:=CC _ Y;by_cases aA:k<nq
    ·have a9:(k:Int)<(nq:Int):=by omega
     have a3:(k:Int)<(nq:Int):=by omega
     have a':=parS_le ac ns t (show k+1<=nq by omega);have aH:=J3 (zmn ac ns t k);have a4:(parS ac ns t (k+1)).length=(parS ac ns t k).length+(if 0<k then 1 else 0)+1+(t k).length:=by
      rw[zmn,Y9,Y9,Y9]
      split <;> rfl
     obtain⟨cm,aI⟩:=Ze (if 0<k then[[44]]else[]:List Bs)
     rw[<-aI]at aH;have ap:=J3 aI;clear aI;have aq:=J3 (show(parS ac ns t k).length+2+(t k).length<=600002 by split at a4 <;> omega);clear a4 aG a' a2;go_upto_if 42 with fail
     go_cut [3] (fun o wx=>∃(vo:Value) (Wy:Zw),vo=o/\Wy=wx/\ZH (Wy.ownsRow W0.heap.size 9 1 vo (parS ac ns t k++cm).length (za8 (parS ac ns t k++cm)))/\ZH (ZB W0 Wy))
     case first=>
      obtain⟨pv,cv,rfl,_⟩:=Jh ho;by_cases aB:0<k
      ·have ba:0<(k:Int):=by omega
       obtain⟨g1,k1,af,W4,E,J,ab⟩:=zh2 (ms:=[[44]]) ho Y.size (zc4 _ [44]) (by simp) (by have:=J0 aq;simp;omega);have HE:=J3 E;have HR:=J3 J;have ae:=J3 (Y.trans ab);have aJ:ZH (cm=[[44]]):=by show _=_;rw[J0 ap,Ye aB]
       clear E J ab aB ao ho Y;go_wp2_with (at_builtin;refine J4 rfl (.tmp 43) (.tmp 44) 27 rfl rfl rfl HE ?_;clear HE);go_meet
       case rel=>exact⟨_,_,rfl,rfl,(by rw[J0 aJ];exact HR),ae⟩
      ·have ba:(k:Int)<=0:=by omega
       have aJ:ZH (cm=[]):=by show _=_;rw[J0 ap,Y7 aB]
       have HR:=J3 ho;have ae:=J3 Y;clear aB ao ho Y;go_wp2_with fail;go_meet
       case rel=>exact⟨_,_,rfl,rfl,(by rw[J0 aJ,X7];exact HR),ae⟩
     case rest=>
      obtain⟨vo,Wy,rfl,rfl,ar,bb⟩:=hcut;clear ao ho Y c0 c1 c2 c3 c4 c5 c6 c7 c8 c9;obtain⟨g,o',⟨K',S',aK,aL,aM,aN,aO,ne',aP,aQ,aR⟩,rfl,a0,a5,ax,CS⟩:=HP k aA;obtain⟨L0,au⟩:=Ze (parS ac ns t k++cm)
      have bc:L0.length<=600003:=by rw[au,Y9,J0 ap];have:=J0 aq;split <;> simp <;> omega
      obtain⟨LT,aS⟩:=Ze (t k)
      obtain⟨nm,aT⟩:=Ze (ns.getD k [])
      rw[<-au,<-aS,<-aT]at aH;rw[<-au]at ar;rw[<-aS]at CS ax aq;rw[<-aT]at a0;have bo:LT.length+L0.length<=900000:=by
       have h3:=J0 aq;have h4:L0.length=(parS ac ns t k).length+cm.length:=by rw[au,Y9]
       have h5:cm.length<=1:=by rw[J0 ap];split <;> simp
       omega
      obtain⟨B,a6⟩:=Ze (fun W=>ZB W0 W:Zw->Prop)
      have ad:∀W,B W->ZB W0 W:=fun W h=>by rw[a6]at h;exact h
      have ah:∀W,ZB W0 W->B W:=fun W h=>by rw[a6];exact h
      have sB:∀W W',B W->ZB W W'->B W':=fun W W' h Y=>ah _ (bon (ad _ h) Y)
      have ai:∀W W',B W->Below W0.heap.size W W'->B W':=fun W W' h Y=>ah _ ((ad _ h).trans Y)
      have aj:∀W,B W->W0.heap.size<=W.heap.size:=fun W h=>(ad W h).size
      have cB:∀W,B W->_:=fun W h=>J0 CC W (ad W h)
      have cX:∀W,B W->ZK6 W g (o'+k*6) (.string ⟨nm.toArray⟩) (Zi K') (.string S') (.slice aK aN aO) (.slice aL ne' aP) (.slice aM aQ aR):=fun W h=>by
       have hw:=am W (ad W h);obtain⟨x1,x2,x3,x4,x5⟩:=a5.below hw;exact⟨(hw.cell (p:=⟨g,_,none⟩) (J2 a0)).trans a0,x1,x2,x3,x4,x5⟩
      have cS:∀W,B W->Leaves 34 #[.agg #[Zi K',.string S',.slice aK aN aO,.slice aL ne' aP,.slice aM aQ aR]] W LT:=fun W h=>CS W (am W (ad W h))
      clear CS HP au aS aT HS a1 a0 a5 ap aq HT HK bc;go_wp2_with fail;refine JL (n:=75) Zk Zk Zk rfl B (VP (vC14 g0 g o' k (.slice (Zs g o') nq cq) ⟨nm.toArray⟩ (.agg #[Zi K',.string S',.slice aK aN aO,.slice aL ne' aP,.slice aM aQ aR]))) (XCh W0.heap.size 0 17 (some vo) L0 [(8,7,[nm]),(16,15,LT)])
       (ah _ (Jb bb)) (Qd (fun v hv=>Y1 hv ▸ ar.drew)) ?each ?fin
      case each=>
       refine⟨?_,?_,?_,?_,?_,?_,?_,?_,?_,?_,?_,?_,?_,?_,?_,?_,?_,?_,trivial⟩
       ·refine Qg rfl (by decide) (by simp) rfl rfl rfl (fun f down Z=>?_) (fun G f c aA a7=>?_)
        ·have e8:=J6 down (i:=8) (j:=0) Zk Z;have ag:=J6 down (i:=16) (j:=8) Zk e8;have av:=J6 down (i:=17) (j:=16) Zk ag;exact⟨av,by simp[e8,ag]⟩
        ·exact aA 3 17 Zk a7
       ·exact Yp sB fun G W c r dep=>zdz rfl (show G.eval (.tmp 1)=Value.pointer (Zs g0 0)from c 1 Zk) ⟨_,rfl,Zr,rfl⟩
       ·exact Yp sB fun G W c r dep=>zcq rfl (dep 1 47 _ Zk Zk rfl) (cB W r).2.2.2.1 ⟨_,rfl,Zr,rfl⟩
       ·exact Yp sB fun G W c r dep=>Jp rfl (show G.eval (.tmp 4)=Zi (k:Int)from c 4 Zk) ⟨_,rfl,Zr,rfl⟩
       ·exact Yp sB fun G W c r dep=>zda rfl (dep 2 48 _ Zk Zk rfl) (dep 3 49 _ Zk Zk rfl) a3 ⟨_,rfl,Zr,rfl⟩
       ·exact Yp sB fun G W c r dep=>zgt rfl (dep 4 50 _ Zk Zk rfl) ⟨_,rfl,Zr,rfl⟩
       ·exact Yp sB fun G W c r dep=>zaz rfl (dep 5 51 _ Zk Zk rfl) (cX W r).1 ⟨_,rfl,Zr,rfl⟩
       ·exact Qf (M:=[nm]) sB (by decide) (by decide) (by simp) rfl (fun G W hz c r dep=>⟨J1 rfl,zb7 (s:=⟨nm.toArray⟩) rfl (dep 6 52 _ Zk Zk rfl) ⟨_,rfl,al1 _ _,src1 W nm⟩⟩)
       ·refine Qi (q:=0) (s:=7) (Lq:=L0) (M:=[nm]) ai aj (by decide) rfl rfl rfl rfl (by simp) (by simp) (by simp;omega) (by simp) Zk Zk Zk Zk (fun f v down Z I=>?_);have ag:=J6 down (i:=16) (j:=8) Zk Z;have av:=J6 down (i:=17) (j:=16) Zk ag;exact⟨av,by simp[Js,Jw,I,Z],by simp[Jk,Z],fun x=>⟨by simp[Js,Jw,JT,I,ag],by simp[Jk,JT,ag]⟩⟩
       ·exact Yp sB fun G W c r dep=>zdz rfl (show G.eval (.tmp 1)=Value.pointer (Zs g0 0)from c 1 Zk) ⟨_,rfl,Zr,rfl⟩
       ·exact Yp sB fun G W c r dep=>zcq rfl (dep 9 55 _ Zk Zk rfl) (cB W r).2.2.2.1 ⟨_,rfl,Zr,rfl⟩
       ·exact Yp sB fun G W c r dep=>Jp rfl (show G.eval (.tmp 4)=Zi (k:Int)from c 4 Zk) ⟨_,rfl,Zr,rfl⟩
       ·exact Yp sB fun G W c r dep=>zda rfl (dep 10 56 _ Zk Zk rfl) (dep 11 57 _ Zk Zk rfl) a3 ⟨_,rfl,Zr,rfl⟩
       ·exact Yp sB fun G W c r dep=>zh1 rfl (dep 12 58 _ Zk Zk rfl) ⟨_,rfl,Zr,rfl⟩
       ·exact Yp sB fun G W c r dep=>zc8 rfl (dep 13 59 _ Zk Zk rfl) (cX W r).2 ⟨_,rfl,Zr,rfl⟩
       ·exact Qf (M:=LT) sB (by decide) (by decide) (by simp) rfl (fun G W hz c r dep=>⟨J1 rfl,zai rfl (dep 14 60 _ Zk Zk rfl) zd0 ((cS W r).mono fun e w' ⟨⟨u,he,h1⟩,Y⟩=>⟨u,he,u,rfl,Y,Qb h1,fun g hg=>h1.lt g hg⟩)⟩)
       ·refine Qi (q:=8) (s:=15) (Lq:=(L0++[nm])) (M:=LT) ai aj (by decide) rfl rfl rfl rfl (by simp) ax (by simp;omega) (by simp) Zk Zk Zk Zk (fun f v down Z I=>?_);obtain⟨v0,e0⟩:=Y4.1 (down 8 0 Zk (by rw[I];simp));have av:=J6 down (i:=17) (j:=16) Zk Z;exact⟨av,by simp[Js,Jw,e0,I,Z],by simp[Jk,I,Z],fun x=>⟨by simp[Js,Jw,JT,e0,I],by simp[Jk,JT,I]⟩⟩
       ·refine Qj (q:=16) (by decide) (by simp) rfl rfl rfl Zk Zk (fun f v down I=>?_);obtain⟨v8,e8⟩:=Y4.1 (down 16 8 Zk (by rw[I];simp));obtain⟨v0,e0⟩:=Y4.1 (down 8 0 Zk (by rw[e8];simp));simp[Js,Jw,I,e0,e8]
      case fin=>
       intro G W f hz aU c r hf hV hX;have aw:(∃v,f 0=some v)/\(∃v,f 8=some v)/\(∃v,f 16=some v):=⟨⟨_,hf 0 46 Zk⟩,⟨_,hf 8 54 Zk⟩,⟨_,hf 16 62 Zk⟩⟩
       have hL:Jk f L0 [(8,7,[nm]),(16,15,LT)]=(L0++[nm]++LT):=by
        obtain⟨⟨_,_⟩,⟨_,e8⟩,⟨_,ag⟩⟩:=aw;simp[Jk,e8,ag]
       obtain⟨ak,_⟩:=hX.2.2 _ (hX.1 _ (hf 17 3 Zk));rw[hL]at ak;have aV:=J3 (ad W r);rw[JZ hz rfl aU c];clear hf hV hX c aw hL cB cX cS sB ai aj ad ah;generalize be:G.tmps.getD 3 undef=v3 at ak;simp only[List.foldl,Option.getD];rw[be];go_wp2_with fail;go_roundg (nq-(k+1))
       case measure=>omega
       case rel=>exact⟨k+1,_,by go_num,rfl,by omega,(by rw[J0 aH];exact ak),aV⟩
    ·obtain rfl:k=nq:=by omega
     have a9:¬(k:Int)<(k:Int):=by omega
     obtain⟨g1,k1,af,W4,E,J,ab⟩:=zh2 (ms:=[[41]]) ho Y.size (zc4 _ [41]) (by simp) (by simp;omega);have HE:=J3 E;have HR:ZH (W4.ownsRow W0.heap.size 9 1 (.slice (Zs g1 0) k1 af) (midS aa hd ns t k).length (za8 (midS aa hd ns t k))):=by rw[J0 aX];exact J
     have ae:=J3 (Y.trans ab);obtain⟨pv,cv,rfl,_⟩:=Jh ho;clear E J ab ao ho Y HP aG a2;go_wp2_with (at_builtin;refine J4 rfl (.tmp 63) (.tmp 64) 27 rfl rfl rfl HE ?_;clear HE);go_meet
     case rel=>exact⟨_,_,rfl,rfl,HR,ae⟩
 case rest=>
 clear c0 c1 c2 c3 c4 c5 c6 c7 c8 c9 an al HP;obtain⟨vo,Wb,rfl,rfl,a8,bf⟩:=hcut;obtain⟨L1,J⟩:=Ze (midS aa hd ns t nq)
 have aG:L1.length<=500000:=by rw[J];exact HS
 rw[<-J]at a8 aW;obtain⟨B,ad,ah,sB,ai,aj⟩:=Zx W0
 have cB:∀W,B W->_:=fun W h=>J0 CC W (ad W h)
 have cT:∀W,B W->Leaves 34 #[(.agg #[Zi K,.string S,.slice pn nn cn,.slice pe ne ce,.slice pp np cp])] W LT:=fun W h=>J0 HT W (am W (ad W h))
 have cK:∀W,B W->Leaves 45 #[.slice pb nb cb] W (zh5 LB):=fun W h=>J0 HK W (am W (ad W h))
 clear J HT HK HS;go_wp2_with fail;refine JL (n:=75) Zk Zk Zk rfl B (VP (vC16 g0 ((.agg #[Zi K,.string S,.slice pn nn cn,.slice pe ne ce,.slice pp np cp])) (.slice pb nb cb))) (XCh W0.heap.size 0 9 (some vo) L1 [(4,3,LT),(8,7,(zh5 LB))])
  (ah _ (Jb bf)) (Qd (fun v hv=>Y1 hv ▸ a8.drew)) ?each ?fin
 case each=>
  refine⟨?_,?_,?_,?_,?_,?_,?_,?_,?_,?_,trivial⟩
  ·refine Qg rfl (by decide) (by simp) rfl rfl rfl (fun f down Z=>?_) (fun G f c aA a7=>?_)
   ·have U:=J6 down (i:=4) (j:=0) Zk Z;have e8:=J6 down (i:=8) (j:=4) Zk U;have e9:=J6 down (i:=9) (j:=8) Zk e8;exact⟨e9,by simp[U,e8]⟩
   ·exact c 3 Zk
  ·exact Yp sB fun G W c r dep=>op_fieldC4 rfl (show G.eval (.tmp 1)=Value.pointer (Zs g0 0)from c 1 Zk) ⟨_,rfl,Zr,rfl⟩
  ·exact Yp sB fun G W c r dep=>zc8 rfl (dep 1 67 _ Zk Zk rfl) (let h:=cB W r;⟨h.2.2.2.2.1,h.2.2.2.2.2.1,h.2.2.2.2.2.2.1,h.2.2.2.2.2.2.2.1,h.2.2.2.2.2.2.2.2.1⟩) ⟨_,rfl,Zr,rfl⟩
  ·exact Qf (M:=LT) sB (by decide) (by decide) (by simp) rfl (fun G W hz c r dep=>⟨J1 rfl,zai rfl (dep 2 68 _ Zk Zk rfl) zd0 ((cT W r).mono fun e w' ⟨⟨u,he,h1⟩,Y⟩=>⟨u,he,u,rfl,Y,Qb h1,fun g hg=>h1.lt g hg⟩)⟩)
  ·refine Qi (q:=0) (s:=3) (Lq:=L1) (M:=LT) ai aj (by decide) rfl rfl rfl rfl (by simp) ax (by omega) (by simp) Zk Zk Zk Zk (fun f v down Z I=>?_);have e8:=J6 down (i:=8) (j:=4) Zk Z;have e9:=J6 down (i:=9) (j:=8) Zk e8;exact⟨e9,by simp[Js,Jw,I,Z],by simp[Jk,Z],fun x=>⟨by simp[Js,Jw,JT,I,e8],by simp[Jk,JT,e8]⟩⟩
  ·exact Yp sB fun G W c r dep=>op_fieldC5 rfl (show G.eval (.tmp 1)=Value.pointer (Zs g0 0)from c 1 Zk) ⟨_,rfl,Zr,rfl⟩
  ·exact Yp sB fun G W c r dep=>ze3 rfl (dep 5 71 _ Zk Zk rfl) (cB W r).2.2.2.2.2.2.2.2.2 ⟨_,rfl,Zr,rfl⟩
  ·exact Qf (M:=(zh5 LB)) sB (by decide) (by decide) (by simp) rfl (fun G W hz c r dep=>⟨J1 rfl,zai rfl (dep 6 72 _ Zk Zk rfl) zfc ((cK W r).mono fun e w' ⟨⟨u,he,h1⟩,Y⟩=>⟨u,he,u,rfl,Y,Qb h1,fun g hg=>h1.lt g hg⟩)⟩)
  ·refine Qi (q:=4) (s:=7) (Lq:=(L1++LT)) (M:=(zh5 LB)) ai aj (by decide) rfl rfl rfl rfl (by simp) (by simp[zh5]) (by simp[zh5];omega) (by simp) Zk Zk Zk Zk (fun f v down Z I=>?_);obtain⟨v0,e0⟩:=Y4.1 (down 4 0 Zk (by rw[I];simp));have e9:=J6 down (i:=9) (j:=8) Zk Z;exact⟨e9,by simp[Js,Jw,e0,I,Z],by simp[Jk,I,Z],fun x=>⟨by simp[Js,Jw,JT,e0,I],by simp[Jk,JT,I]⟩⟩
  ·refine Qj (q:=8) (by decide) (by simp) rfl rfl rfl Zk Zk (fun f v down I=>?_);obtain⟨v4,U⟩:=Y4.1 (down 8 4 Zk (by rw[I];simp));obtain⟨v0,e0⟩:=Y4.1 (down 4 0 Zk (by rw[U];simp));simp[Js,Jw,I,e0,U]
 case fin=>
  intro G W f hz aU c r hf hV hX;have aw:(∃v,f 0=some v)/\(∃v,f 4=some v)/\(∃v,f 8=some v):=⟨⟨_,hf 0 66 Zk⟩,⟨_,hf 4 70 Zk⟩,⟨_,hf 8 74 Zk⟩⟩
  have hL:Jk f L1 [(4,3,LT),(8,7,(zh5 LB))]=(L1++LT++zh5 LB):=by
   obtain⟨⟨_,_⟩,⟨_,U⟩,⟨_,e8⟩⟩:=aw;simp[Jk,U,e8]
  obtain⟨ak,_⟩:=hX.2.2 _ (hX.1 _ (hf 9 2 Zk));rw[hL]at ak;have aV:=J3 (J0 am W (ad W r));have ar:=J3 (ak.mono H0.size);rw[JZ hz rfl aU c];clear hf hV hX c aw hL cB cT cK sB ai aj ad ah ak;generalize bg:G.tmps.getD 2 undef=v2 at ar;simp only[List.foldl,Option.getD];rw[bg];go_wp2_with fail;go_ret;exact⟨⟨_,rfl,by rw[J0 aW];exact ar⟩,aV⟩
def vP5 (g0 g c k:Nat) (vs:Value) (s:Zy) (vt:Value):List (Option Value):=[none,some (.pointer (Zs g0 0)),some (vs),some (Zi (k:Int)),some (.pointer (Zs g (c+k*7))),some (.pointer (Zs g (c+k*7+1))),some (.string s),none,none,some (.pointer (Zs g0 0)),some (vs),some (Zi (k:Int)),some (.pointer (Zs g (c+k*7))),some (.pointer (Zs g (c+k*7+2))),some (vt),none,none,none,none,none]
section
variable {o:Oper} {a:Act} {w:Zw} {K:Act->Zw->Prop} {Q:Exit->Act->Zw->Prop}
theorem zmm {x:Operand} {b:Nat} (c:o.op=.fieldAddr 36 x 0) (g:a.eval x=.pointer (Zs b 0)) (h:K (a.put o.dst (.pointer (Zs b 0))) w):o.wp Tryz.prog a w K Q:=by
 unfold Oper.wp;simp only[execOp,c,g];go_simp;exact h
theorem op_loadDs' {x:Operand} {b i:Nat} {p:Zo} {n c:Nat} (g:o.op=.load 22 x) (j:a.eval x=.pointer (Zs b i)) (r:w.cell? ⟨b,i,none⟩=some (.slice p n c)) (h:K (a.put o.dst (.slice p n c)) w):o.wp Tryz.prog a w K Q:=by
 unfold Oper.wp;simp only[execOp,g,j];go_simp;exact h
theorem op_buildS3 {x y z:Operand} {s t u:Zy} (c:o.op=.buildSlice 27 3 #[(0,x),(1,y),(2,z)]) (g:a.eval x=.string s) (j:a.eval y=.string t) (hz:a.eval z=.string u) (h:K (a.put o.dst (.slice (Zs w.heap.size 0) 3 3)) (w.alloc (.cells #[.string s,.string t,.string u] 9))):o.wp Tryz.prog a w K Q:=by
 unfold Oper.wp;simp only[execOp,c,Xp,Yf,YG,g,j,hz];go_simp;exact h
end
theorem prog_strs (A K:Int) (O N S:Zy) (pd pm pf pq pn pe pp pb:Zo) (nd cd nm cm nf cf nq cq nn cn ne ce np cp nb cb:Nat) (w:Zw) (aq:Nat->Bs) (ao G LF:Nat->List Bs) (LZ:List Bs) (hn:nd<=60000/\nm<=60000/\nf<=60000)
  (hl:(LL (fun i=>[[116,121,112,101],aq i,[61]]++ao i++[[59]]) nd++LL G nm++LL LF nf).length<=600000) (bi:LZ.length<=300000)
  (hD:∀k,k<nd->∃(g Z:Nat) (y:T5),pd=some ⟨g,Z,none⟩/\w.cell? ⟨g,Z+k*7+1,none⟩=some (.string ⟨(aq k).toArray⟩)/\T5At w g (Z+k*7+2) y/\0<(ao k).length/\∀W,ZB w W->Leaves 34 #[y.val] W (ao k))
  (hM:∀k,k<nm->∃(g Z:Nat) (y:C10),pm=some ⟨g,Z,none⟩/\C10At w g (Z+k*10) y/\∀W,ZB w W->Leaves 13 #[y.val] W (G k))
  (hF:∀k,k<nf->∃(g Z:Nat) (y:C10),pf=some ⟨g,Z,none⟩/\C10At w g (Z+k*10) y/\∀W,ZB w W->Leaves 13 #[y.val] W (LF k))
  (hZ:∀W,ZB w W->Leaves 13 #[(.agg #[Zi A,.string O,.string N,.slice pq nq cq,Zi K,.string S,.slice pn nn cn,.slice pe ne ce,.slice pp np cp,.slice pb nb cb])] W LZ) :
  Leaves 8 #[(.agg #[.slice pd nd cd,.slice pm nm cm,.slice pf nf cf,Zi A,.string O,.string N,.slice pq nq cq,Zi K,.string S,.slice pn nn cn,.slice pe ne ce,.slice pp np cp,.slice pb nb cb])] w (LL (fun i=>[[116,121,112,101],aq i,[61]]++ao i++[[59]]) nd++LL G nm++LL LF nf++LZ):=by
 obtain⟨c,aN⟩:∃L:Nat->List Bs,L=fun i=>[[116,121,112,101],aq i,[61]]++ao i++[[59]]:=⟨_,rfl⟩
 rw[<-aN]at hl ⊢;have a1:=J3 aN;obtain⟨LE,aO⟩:∃L,L=LL c nd++LL G nm++LL LF nf++LZ:=⟨_,rfl⟩
 rw[<-aO];have aP:=J3 aO;have aI:=J3 hD;have aQ:=J3 hM;have aR:=J3 hF;have aS:=J3 hZ;have HS:=J3 hl;obtain⟨bj,bk,bl⟩:=hn;clear hD hM hF hZ hl aO aN;go_enter Tryz.func8,Tryz.ntmps8;go_upto_region 1 with fail
 obtain⟨W0,aJ⟩:=Ze (w.alloc (Obj.cells #[.slice pd nd cd,.slice pm nm cm,.slice pf nf cf,Zi A,.string O,.string N,.slice pq nq cq,Zi K,.string S,.slice pn nn cn,.slice pe ne ce,.slice pp np cp,.slice pb nb cb] 36):Zw)
 obtain⟨g0,aT⟩:∃g:Nat,g=w.heap.size:=⟨_,rfl⟩
 rw[<-aJ,<-aT];have C0:ZH (ZL13 W0 g0 (.slice pd nd cd) (.slice pm nm cm) (.slice pf nf cf) (Zi A) (.string O) (.string N) (.slice pq nq cq) (Zi K) (.string S) (.slice pn nn cn) (.slice pe ne ce) (.slice pp np cp) (.slice pb nb cb)):=by rw[aJ,aT];exact zbj (x:=⟨pd,nd,cd,pm,nm,cm,pf,nf,cf,⟨A,O,N,pq,nq,cq,⟨K,S,pn,pe,pp,nn,cn,ne,ce,np,cp⟩,pb,nb,cb⟩⟩) Zr
 have H0:ZH (ZB w W0):=by rw[aJ];exact Za _ _
 clear aJ aT;have aj:ZH (∀V,ZB W0 V->ZB w V):=fun V h=>Zn H0 h
 have CC:ZH (∀V,ZB W0 V->ZL13 V g0 (.slice pd nd cd) (.slice pm nm cm) (.slice pf nf cf) (Zi A) (.string O) (.string N) (.slice pq nq cq) (Zi K) (.string S) (.slice pn nn cn) (.slice pe ne ce) (.slice pp np cp) (.slice pb nb cb)):=fun V h=>zc1 C0 h
 go_upto_block 0 with fail
 go_cut [3] (fun o wx=>∃(I:Value) (Wy:Zw),I=o/\Wy=wx/\ZH (Wy.ownsRow W0.heap.size 9 1 I (LL c nd).length (za8 (LL c nd)))/\ZH (ZB W0 Wy))
 case first=>
  go_wp2_with fail
  go_loopg [3,4] nd (fun gk o i wr=>∃(k:Nat) (I:Value),i=Zi k/\I=o/\k+gk=nd/\ZH (wr.ownsRow W0.heap.size 9 1 I (LL c k).length (za8 (LL c k))/\ZB W0 wr))
  case atStart=>exact⟨0,_,rfl,rfl,by omega,(by simp only[LL,List.range_zero,List.flatMap_nil];exact YU _ _ _ _),Zr⟩
  case round=>
   obtain⟨k,I,rfl,rfl,hk,ap⟩:=hrel;have aK:=J3 (J0 ap).2;replace ap:=J3 (J0 ap).1;by_cases al:k<nd
   ·have ar:(k:Int)<(nd:Int):=by omega
    have a2:(k:Int)<(nd:Int):=by omega
    obtain⟨c0,c1,c2,c3,c4,c5,c6,c7,c8,c9,au,av,aw⟩:=CC _ aK;obtain⟨g,Z,⟨K',S',ax,ay,az,aA,aB,ne',aC,aD,aE⟩,rfl,a0,a3,a4,CS⟩:=aI k al;obtain⟨L0,aa⟩:=Ze (LL c k)
    obtain⟨LT,aU⟩:=Ze (ao k)
    obtain⟨ab,aV⟩:∃nm,nm=aq k:=⟨_,rfl⟩
    have aW:c k=[[116,121,112,101],ab,[61]]++LT++[[59]]:=by rw[J0 a1,aU,aV]
    have ad:=LL_le c (show k+1<=nd by omega);rw[zhp,aW,<-aa]at ad;have bm:L0.length+LT.length+4<=600000:=by have:=J0 HS;simp only[Y9,Yk,X8]at this ad;omega
    have a7:ZH (LL c (k+1)=L0++[[116,121,112,101],ab,[61]]++LT++[[59]]):=by show _=_;rw[zhp,aW,<-aa];simp only[Xe]
    rw[<-aa]at ap;rw[<-aU]at CS a4;rw[<-aV]at a0;obtain⟨B,aF,a5,sB,aL,aM⟩:=Zx W0
    have cB:∀W,B W->_:=fun W h=>J0 CC W (aF W h)
    have cX:∀W,B W->W.cell? ⟨g,Z+k*7+1,none⟩=some (.string ⟨ab.toArray⟩)/\W.cell? ⟨g,Z+k*7+2,none⟩=some (Zi K')/\W.cell? ⟨g,Z+k*7+3,none⟩=some (.string S')/\W.cell? ⟨g,Z+k*7+4,none⟩=some (.slice ax aA aB)/\W.cell? ⟨g,Z+k*7+5,none⟩=some (.slice ay ne' aC)/\W.cell? ⟨g,Z+k*7+6,none⟩=some (.slice az aD aE):=fun W h=>by
     have hw:=aj W (aF W h);obtain⟨x1,x2,x3,x4,x5⟩:=a3.below hw;exact⟨(hw.cell (p:=⟨g,_,none⟩) (J2 a0)).trans a0,x1,x2,x3,x4,x5⟩
    have cS:∀W,B W->Leaves 34 #[.agg #[Zi K',.string S',.slice ax aA aB,.slice ay ne' aC,.slice az aD aE]] W LT:=fun W h=>CS W (aj W (aF W h))
    clear CS aI aa aU aV aW ad HS a0 a3 aQ aR aS aP a1;go_upto_region 5 with fail
    clear c0 c1 c2 c3 c4 c5 c6 c7 c8 c9 au av aw;refine JL (n:=68) Zk Zk Zk rfl B (VP (vP5 g0 g Z k (.slice (Zs g Z) nd cd) ⟨ab.toArray⟩ (.agg #[Zi K',.string S',.slice ax aA aB,.slice ay ne' aC,.slice az aD aE]))) (XCh W0.heap.size 0 19 (some I) L0 [(8,7,[[116,121,112,101],ab,[61]]),(16,15,LT),(18,17,[[59]])])
     (a5 _ (Jb aK)) (Qd (fun v hv=>Y1 hv ▸ ap.drew)) ?each ?fin
    case each=>
     refine⟨?_,?_,?_,?_,?_,?_,?_,?_,?_,?_,?_,?_,?_,?_,?_,?_,?_,?_,?_,?_,trivial⟩
     ·refine Qg rfl (by decide) (by simp) rfl rfl rfl (fun f down ac=>?_) (fun U f J al a8=>?_)
      ·have e8:=J6 down (i:=8) (j:=0) Zk ac;have ae:=J6 down (i:=16) (j:=8) Zk e8;have ai:=J6 down (i:=18) (j:=16) Zk ae;have am:=J6 down (i:=19) (j:=18) Zk ai;exact⟨am,by simp[e8,ae,ai]⟩
      ·exact al 3 19 Zk a8
     ·exact Yp sB fun U W J Y dep=>zmm rfl (show U.eval (.tmp 1)=Value.pointer (Zs g0 0)from J 1 Zk) ⟨_,rfl,Zr,rfl⟩
     ·exact Yp sB fun U W J Y dep=>op_loadDs' rfl (dep 1 15 _ Zk Zk rfl) (cB W Y).1 ⟨_,rfl,Zr,rfl⟩
     ·exact Yp sB fun U W J Y dep=>Jp rfl (show U.eval (.tmp 4)=Zi (k:Int)from J 4 Zk) ⟨_,rfl,Zr,rfl⟩
     ·exact Yp sB fun U W J Y dep=>zc6 rfl (dep 2 16 _ Zk Zk rfl) (dep 3 17 _ Zk Zk rfl) a2 ⟨_,rfl,Zr,rfl⟩
     ·exact Yp sB fun U W J Y dep=>zgh rfl (dep 4 18 _ Zk Zk rfl) ⟨_,rfl,Zr,rfl⟩
     ·exact Yp sB fun U W J Y dep=>zaz rfl (dep 5 19 _ Zk Zk rfl) (cX W Y).1 ⟨_,rfl,Zr,rfl⟩
     ·exact Qf (M:=[[116,121,112,101],ab,[61]]) sB (by decide) (by decide) (by simp) rfl (fun U W hz J Y dep=>⟨J1 rfl,op_buildS3 (s:=⟨#[116,121,112,101]⟩) (t:=⟨ab.toArray⟩) (u:=⟨#[61]⟩) rfl rfl (dep 6 20 _ Zk Zk rfl) rfl ⟨_,rfl,al1 _ _,Qb (owns_new3 W [116,121,112,101] ab [61]),fun g hg=>(owns_new3 W [116,121,112,101] ab [61]).lt g hg⟩⟩)
     ·refine Qi (q:=0) (s:=7) (Lq:=L0) (M:=[[116,121,112,101],ab,[61]]) aL aM (by decide) rfl rfl rfl rfl (by simp) (by simp) (by simp;omega) (by simp) Zk Zk Zk Zk (fun f v down ac hq=>?_);have ae:=J6 down (i:=16) (j:=8) Zk ac;have ai:=J6 down (i:=18) (j:=16) Zk ae;have am:=J6 down (i:=19) (j:=18) Zk ai;exact⟨am,by simp[Js,Jw,hq,ac],by simp[Jk,ac],fun x=>⟨by simp[Js,Jw,JT,hq,ae],by simp[Jk,JT,ae]⟩⟩
     ·exact Yp sB fun U W J Y dep=>zmm rfl (show U.eval (.tmp 1)=Value.pointer (Zs g0 0)from J 1 Zk) ⟨_,rfl,Zr,rfl⟩
     ·exact Yp sB fun U W J Y dep=>op_loadDs' rfl (dep 9 23 _ Zk Zk rfl) (cB W Y).1 ⟨_,rfl,Zr,rfl⟩
     ·exact Yp sB fun U W J Y dep=>Jp rfl (show U.eval (.tmp 4)=Zi (k:Int)from J 4 Zk) ⟨_,rfl,Zr,rfl⟩
     ·exact Yp sB fun U W J Y dep=>zc6 rfl (dep 10 24 _ Zk Zk rfl) (dep 11 25 _ Zk Zk rfl) a2 ⟨_,rfl,Zr,rfl⟩
     ·exact Yp sB fun U W J Y dep=>zgu rfl (dep 12 26 _ Zk Zk rfl) ⟨_,rfl,Zr,rfl⟩
     ·exact Yp sB fun U W J Y dep=>zc8 rfl (dep 13 27 _ Zk Zk rfl) (cX W Y).2 ⟨_,rfl,Zr,rfl⟩
     ·exact Qf (M:=LT) sB (by decide) (by decide) (by simp) rfl (fun U W hz J Y dep=>⟨J1 rfl,zai rfl (dep 14 28 _ Zk Zk rfl) zd0 ((cS W Y).mono fun e w' ⟨⟨u,he,h1⟩,hb⟩=>⟨u,he,u,rfl,hb,Qb h1,fun g hg=>h1.lt g hg⟩)⟩)
     ·refine Qi (q:=8) (s:=15) (Lq:=(L0++[[116,121,112,101],ab,[61]])) (M:=LT) aL aM (by decide) rfl rfl rfl rfl (by simp) a4 (by simp;omega) (by simp) Zk Zk Zk Zk (fun f v down ac hq=>?_);obtain⟨v0,e0⟩:=Y4.1 (down 8 0 Zk (by rw[hq];simp));have ai:=J6 down (i:=18) (j:=16) Zk ac;have am:=J6 down (i:=19) (j:=18) Zk ai;exact⟨am,by simp[Js,Jw,e0,hq,ac],by simp[Jk,hq,ac],fun x=>⟨by simp[Js,Jw,JT,e0,hq,ai],by simp[Jk,JT,hq,ai]⟩⟩
     ·exact Qf (M:=[[59]]) sB (by decide) (by decide) (by simp) rfl (fun U W hz J Y dep=>⟨J1 rfl,zb7 (s:=⟨#[59]⟩) rfl rfl ⟨_,rfl,al1 _ _,src1 W [59]⟩⟩)
     ·refine Qi (q:=16) (s:=17) (Lq:=(L0++[[116,121,112,101],ab,[61]]++LT)) (M:=[[59]]) aL aM (by decide) rfl rfl rfl rfl (by simp) (by simp) (by simp;omega) (by simp) Zk Zk Zk Zk (fun f v down ac hq=>?_);obtain⟨v8,e8⟩:=Y4.1 (down 16 8 Zk (by rw[hq];simp));obtain⟨v0,e0⟩:=Y4.1 (down 8 0 Zk (by rw[e8];simp));have am:=J6 down (i:=19) (j:=18) Zk ac;exact⟨am,by simp[Js,Jw,e0,e8,hq,ac],by simp[Jk,e8,hq,ac],fun x=>⟨by simp[Js,Jw,JT,e0,e8,hq],by simp[Jk,JT,e8,hq]⟩⟩
     ·refine Qj (q:=18) (by decide) (by simp) rfl rfl rfl Zk Zk (fun f v down hq=>?_);obtain⟨bn,ae⟩:=Y4.1 (down 18 16 Zk (by rw[hq];simp));obtain⟨v8,e8⟩:=Y4.1 (down 16 8 Zk (by rw[ae];simp));obtain⟨v0,e0⟩:=Y4.1 (down 8 0 Zk (by rw[e8];simp));simp[Js,Jw,hq,e0,e8,ae]
    case fin=>
     intro U W f hz a9 J Y hf hV hX;have a6:(∃v,f 0=some v)/\(∃v,f 8=some v)/\(∃v,f 16=some v)/\(∃v,f 18=some v):=⟨⟨_,hf 0 14 Zk⟩,⟨_,hf 8 22 Zk⟩,⟨_,hf 16 30 Zk⟩,⟨_,hf 18 32 Zk⟩⟩
     have hL:Jk f L0 [(8,7,[[116,121,112,101],ab,[61]]),(16,15,LT),(18,17,[[59]])]=(L0++[[116,121,112,101],ab,[61]]++LT++[[59]]):=by
      obtain⟨⟨_,_⟩,⟨_,e8⟩,⟨_,ae⟩,⟨_,ai⟩⟩:=a6;simp[Jk,e8,ae,ai]
     obtain⟨aX,_⟩:=hX.2.2 _ (hX.1 _ (hf 19 3 Zk));rw[hL]at aX;have a':=J3 (aF W Y);rw[JZ hz rfl a9 J];clear hf hV hX J a6 hL cB cX cS sB aL aM aF a5;generalize ba:U.tmps.getD 3 undef=v3 at aX;simp only[List.foldl,Option.getD];rw[ba];go_wp2_with fail;go_roundg (nd-(k+1))
     case measure=>omega
     case rel=>exact⟨k+1,_,by go_num,rfl,by omega,(by rw[J0 a7];exact aX),a'⟩
   ·obtain rfl:k=nd:=by omega
    have ar:¬(k:Int)<(k:Int):=by omega
    obtain⟨c0,c1,c2,c3,c4,c5,c6,c7,c8,c9,au,av,aw⟩:=CC _ aK;clear aI;go_wp2_with fail;go_meet
    case rel=>exact⟨_,_,rfl,rfl,ap,aK⟩
 case rest=>
 clear aI;obtain⟨I,Wa,rfl,rfl,af,ag⟩:=hcut;go_upto_block 2 with fail
 go_cut [3] (fun o wx=>∃(I:Value) (Wy:Zw),I=o/\Wy=wx/\ZH (Wy.ownsRow W0.heap.size 9 1 I (LL c nd++LL G nm).length (za8 (LL c nd++LL G nm)))/\ZH (ZB W0 Wy))
 case first=>
  go_wp2_with fail
  go_loopg [3,5] nm (fun gk o i wr=>∃(k:Nat) (I:Value),i=Zi k/\I=o/\k+gk=nm/\ZH (wr.ownsRow W0.heap.size 9 1 I (LL c nd++LL G k).length (za8 (LL c nd++LL G k))/\ZB W0 wr))
  case atStart=>exact⟨0,_,rfl,rfl,by omega,(by rw[show LL c nd++LL G 0=LL c nd by simp[LL]];exact af),ag⟩
  case round=>
   obtain⟨k,I,rfl,rfl,hk,an⟩:=hrel;obtain⟨ho,hb⟩:=J0 an;clear af ag;obtain⟨c0,c1,c2,c3,c4,c5,c6,c7,c8,c9,au,av,aw⟩:=CC _ hb;by_cases al:k<nm
   ·have ar:(k:Int)<(nm:Int):=by omega
    obtain⟨g,Z,⟨A',O',N',bb,bc,be,⟨K',S',ax,ay,az,aA,aB,ne',aC,aD,aE⟩,bf,bg,bh⟩,rfl,a0,CS⟩:=aQ k al;obtain⟨x0,x1,x2,x3,⟨x4,x5,x6,x7,x8⟩,x9⟩:=a0.below (aj _ hb);have ad:=LL_le G (show k+1<=nm by omega);have ah:=zhp G k;obtain⟨L0,aa⟩:=Ze (LL c nd++LL G k)
    have HL:ZH (L0.length+(G k).length<=600000):=by have:=J0 HS;rw[ah]at ad;show _<=_;rw[aa];simp only[Y9]at this ad ⊢;omega
    rw[<-aa]at ho;replace ah:LL c nd++LL G (k+1)=L0++G k:=by rw[ah,aa];simp only[Xe]
    have aY:=J3 ah;have HC:=J3 (CS _ (aj _ hb));have HB:=J3 hb;have HO:=J3 ho;obtain⟨pv,cv,rfl,_⟩:=Jh ho;clear a0 CS ad ah an ho hb aa;go_wp2_with (first
     | (go_at_call 13;refine HC.mono ?_;clear HC;rintro e w1 ⟨⟨u,rfl,hu⟩,ak⟩;obtain⟨r,W4,E,aG,aH⟩:=behind0 HB HO ak hu (by have:=J0 HL;omega);obtain⟨pu,cu,rfl,_⟩:=Jh hu;have HE:=J3 E;clear E hu ak)
     | (at_builtin;refine J4 rfl (.tmp 40) (.tmp 46) 27 rfl rfl rfl HE ?_;clear HE))
    go_roundg (nm-(k+1))
    case measure=>omega
    case rel=>exact⟨k+1,_,by go_num,rfl,by omega,(by rw[J0 aY];exact aG),aH⟩
   ·obtain rfl:k=nm:=by omega
    have ar:¬(k:Int)<(k:Int):=by omega
    have HR:=J3 ho;have aZ:=J3 hb;clear an ho hb;go_wp2_with fail;go_meet
    case rel=>exact⟨_,_,rfl,rfl,HR,aZ⟩
 case rest=>
 clear af ag aQ;obtain⟨I,Wa,rfl,rfl,af,ag⟩:=hcut;go_upto_block 4 with fail
 go_cut [3] (fun o wx=>∃(I:Value) (Wy:Zw),I=o/\Wy=wx/\ZH (Wy.ownsRow W0.heap.size 9 1 I (LL c nd++LL G nm++LL LF nf).length (za8 (LL c nd++LL G nm++LL LF nf)))/\ZH (ZB W0 Wy))
 case first=>
  go_wp2_with fail
  go_loopg [3,6] nf (fun gk o i wr=>∃(k:Nat) (I:Value),i=Zi k/\I=o/\k+gk=nf/\ZH (wr.ownsRow W0.heap.size 9 1 I ((LL c nd++LL G nm)++LL LF k).length (za8 ((LL c nd++LL G nm)++LL LF k))/\ZB W0 wr))
  case atStart=>exact⟨0,_,rfl,rfl,by omega,(by rw[show(LL c nd++LL G nm)++LL LF 0=(LL c nd++LL G nm) by simp[LL]];exact af),ag⟩
  case round=>
   obtain⟨k,I,rfl,rfl,hk,an⟩:=hrel;obtain⟨ho,hb⟩:=J0 an;clear af ag;obtain⟨c0,c1,c2,c3,c4,c5,c6,c7,c8,c9,au,av,aw⟩:=CC _ hb;by_cases al:k<nf
   ·have ar:(k:Int)<(nf:Int):=by omega
    obtain⟨g,Z,⟨A',O',N',bb,bc,be,⟨K',S',ax,ay,az,aA,aB,ne',aC,aD,aE⟩,bf,bg,bh⟩,rfl,a0,CS⟩:=aR k al;obtain⟨x0,x1,x2,x3,⟨x4,x5,x6,x7,x8⟩,x9⟩:=a0.below (aj _ hb);have ad:=LL_le LF (show k+1<=nf by omega);have ah:=zhp LF k;obtain⟨L0,aa⟩:=Ze ((LL c nd++LL G nm)++LL LF k)
    have HL:ZH (L0.length+(LF k).length<=600000):=by have:=J0 HS;rw[ah]at ad;show _<=_;rw[aa];simp only[Y9]at this ad ⊢;omega
    rw[<-aa]at ho;replace ah:(LL c nd++LL G nm)++LL LF (k+1)=L0++LF k:=by rw[ah,aa];simp only[Xe]
    have aY:=J3 ah;have HC:=J3 (CS _ (aj _ hb));have HB:=J3 hb;have HO:=J3 ho;obtain⟨pv,cv,rfl,_⟩:=Jh ho;clear a0 CS ad ah an ho hb aa;go_wp2_with (first
     | (go_at_call 13;refine HC.mono ?_;clear HC;rintro e w1 ⟨⟨u,rfl,hu⟩,ak⟩;obtain⟨r,W4,E,aG,aH⟩:=behind0 HB HO ak hu (by have:=J0 HL;omega);obtain⟨pu,cu,rfl,_⟩:=Jh hu;have HE:=J3 E;clear E hu ak)
     | (at_builtin;refine J4 rfl (.tmp 55) (.tmp 61) 27 rfl rfl rfl HE ?_;clear HE))
    go_roundg (nf-(k+1))
    case measure=>omega
    case rel=>exact⟨k+1,_,by go_num,rfl,by omega,(by rw[J0 aY];exact aG),aH⟩
   ·obtain rfl:k=nf:=by omega
    have ar:¬(k:Int)<(k:Int):=by omega
    have HR:=J3 ho;have aZ:=J3 hb;clear an ho hb;go_wp2_with fail;go_meet
    case rel=>exact⟨_,_,rfl,rfl,HR,aZ⟩
 case rest=>
 clear af ag aR;obtain⟨I,Wa,rfl,rfl,af,ag⟩:=hcut;obtain⟨c0,c1,c2,c3,c4,c5,c6,c7,c8,c9,au,av,aw⟩:=CC _ ag;have HC:=J3 (J0 aS _ (aj _ ag));obtain⟨L0,aa⟩:=Ze (LL c nd++LL G nm++LL LF nf)
 rw[<-aa]at af aP HS;obtain⟨pv,cv,rfl,_⟩:=Jh af;clear aa;clear aS CC;go_wp2_with (first
  | (go_at_call 13;refine HC.mono ?_;clear HC;rintro e w1 ⟨⟨u,rfl,hu⟩,ak⟩;obtain⟨r,W4,E,aG,aH⟩:=behind0 ag af ak hu (by have:=J0 HS;omega);obtain⟨pu,cu,rfl,_⟩:=Jh hu;have HE:=J3 E;clear E hu ak)
  | (at_builtin;refine J4 rfl (.tmp 63) (.tmp 66) 27 rfl rfl rfl HE ?_;clear HE))
 go_ret;exact⟨⟨_,rfl,by rw[J0 aP];exact aG.mono H0.size⟩,aj _ aH⟩
theorem flat_congr {α β:Type} {l:List α} {f g:α->List β} (h:∀x∈l,f x=g x):l.flatMap f=l.flatMap g:=by
 induction l with
 | nil=>rfl
 | cons x r c=>rw[X6,X6,h x (by simp),c fun y j=>h y (by simp[j])]
theorem psS_eq {E:Nat} (c:List (Pa E)) (hd:List Bs):parS (hd++[[40]]) (c.map (·.1)) (fun i=>(c[i]?.map fun x=>tyS E x.2).getD []) c.length++[[41]]=hd++(psT E c).map J5:=by
 rw[parS,psT,zd3,Yf,Yj,Xv,JC,Yf,YG,JC];simp only[Xe,YD,Xc]
 congr 3
 refine flat_congr fun i g=>?_
 have g:=Yy.1 g;rw[zmq,Y6 g,Yo,Xd,Y6 g];simp only[X5,YY,Yf,zdl]
 rfl
theorem tT_txt (s:Bs):J5 (tT s)=s:=by rw[JB (show(2:Int)≠4 by decide) (show(2:Int)≠5 by decide)];rfl
theorem coS_eq {E D d m:Nat} {c:Co E D d m} (j:JD E D d m c=true) :
  midS (JV c) (hdS (zcw c) (JV c)) ((cPs c).map (·.1)) (fun i=>((cPs c)[i]?.map fun x=>tyS E x.2).getD []) (cPs c).length++tyS E (zgv c)++zh5 (stS D d m (zaf c))=coS E D d m c:=by
 have r:zh5 (stS D d m (zaf c))=(tS [123]::(zes D d m (zaf c)++[tS [125]])).map J5:=by
  rw[Yf,Yj,JC,Yf,YG,JC];rfl
 rw[coS,coT,Yj,Yj,<-r,<-Xe];show _++tyS E (zgv c)++_=_++tyS E (zgv c)++_
 congr 2
 cases ho:(zcw c).isEmpty
 ·have hm:=rc_method j ho;have g:(JV c).isEmpty=false:=by rw[zav,ho]at hm;simpa using hm
  rw[Ye hm,midS,Ye g,psS_eq,hdS,Ye ho];simp only[Yf,zap,tT_txt,JC,zdl,YD,Xc]
 ·have hm:zav (zcw c) (JV c)=false:=by rw[zav,ho];rfl
  cases g:(JV c).isEmpty
  ·have h:zdc (zcw c) (JV c)=true:=by rw[zdc,ho,g];rfl
   rw[Y7 (by rw[hm];simp),Ye h,midS,Ye g,psS_eq,hdS,Y7 (by rw[ho];simp),Ye g];simp only[Yf,zap,zdl,YD,Xc]
  ·have h:zdc (zcw c) (JV c)=false:=by rw[zdc,ho,g];rfl
   rw[Y7 (by rw[hm];simp),Y7 (by rw[h];simp),midS,Y7 (by rw[g];simp),hdS,Y7 (by rw[ho];simp),Y7 (by rw[g];simp)];simp only[Yf,YG,zap]
theorem tys_any {E:Nat} {t:Ty E} {v:Value} {w:Zw} (c:TyValD w E v t) (g:JP E 64 t=true) (hz:szD E t<=60000):Leaves 34 #[v] w (tyS E t):=
 (zmb E t v w c ⟨64,g⟩ hz).mono fun _ _ ⟨⟨u,he,h,_⟩,j⟩=>⟨⟨u,he,h⟩,j⟩
theorem tyS_len {E:Nat} (t:Ty E):(tyS E t).length+1<=4*szD E t:=by rw[tyS,Xy];exact zdu E false t
theorem zim (E D d m:Nat) (x:C10) (c:Co E D d m) (w:Zw) (M:CoIs w E D d m x c) (t:JD E D d m c=true) (hz:zei E D d m c<=20000):Leaves 13 #[x.val] w (coS E D d m c):=by
 obtain⟨A,O,N,pq,nq,cq,⟨K,S,pn,pe,pp,nn,cn,ne,ce,np,cp⟩,pb,nb,cb⟩:=x;obtain⟨_,u,G,j,I,r⟩:=M;dsimp only at u G j I r;obtain⟨_,_,U,J,Y⟩:=zg9 t;have Z:=j.len;have aa:nb=(zaf c).length:=by
  obtain⟨p',c',e⟩:=r.slice;injection e
 subst Z aa;have hle:=coS_le c;have ab:=hz;unfold zei at hz;rw[<-coS_eq t]at hle ⊢;rw[Y9,Y9]at hle;have h1:(cPs c).length<=szPs E (cPs c):=zcp _ (fun x=>by omega) _;have h2:=tyS_len (zgv c);have h3:=stS_le D d m (zaf c);refine coded_run A K O N S (zcw c) (JV c) pq pn pe pp pb (cPs c).length cq nn cn ne ce np cp (zaf c).length cb w _ _ _ _ u G (by simp) (by omega) (by omega) (by omega) (by omega) (zfp ⟨_,J⟩) (fun k s=>?_) (fun W h=>tys_any (TyValD.below h I) J (by omega)) (fun W h=>zjj _ _ _ _ W (by omega) fun V hV=>listed_any D d m _ _ _ V (StRow.below (bon h hV) m r) ⟨_,Y⟩ (by omega));obtain⟨_,_,e,hp⟩:=j;injection e with e1 e2 e3
 subst e1;obtain⟨g,o,y,rfl,a0,a1,a2⟩:=hp k (cPs c)[k] (by simp);have h4:1+(cPs c)[k].1.length+szD E (cPs c)[k].2<=szPs E (cPs c):=zbu (YF.2 ⟨(cPs c)[k],by simp,rfl⟩);obtain⟨L,r7⟩:=U (cPs c)[k] (by simp);refine⟨g,o,y,rfl,?_,a1,?_,fun W h=>?_⟩
 ·rw[Yo,Xd,Y6 s];exact a0
 ·rw[Y6 s];exact zfp ⟨_,L⟩
 ·rw[Y6 s];exact tys_any (TyValD.below h a2) L (by omega)
theorem LL_eq {α:Type} (f:α->List Bs) (l:List α):LL (fun i=>(l[i]?.map f).getD []) l.length=l.flatMap f:=zgy f l
theorem prS_eq {E D d m:Nat} (p:Pr E D d m):LL (fun i=>[[116,121,112,101],(p.1[i]?.map fun x=>x.2.1).getD [],[61]]++(p.1[i]?.map fun x=>tyS E x.2.2).getD []++[[59]]) p.1.length++LL (fun i=>(p.2.1[i]?.map (coS E D d m)).getD []) p.2.1.length++LL (fun i=>(p.2.2.1[i]?.map (coS E D d m)).getD []) p.2.2.1.length++coS E D d m p.2.2.2=prS E D d m p:=by
 rw[prS,prT,Yj,Yj,Yj,Xv,Xv,Xv,LL_eq,LL_eq];have h:LL (fun i=>[[116,121,112,101],(p.1[i]?.map fun x=>x.2.1).getD [],[61]]++(p.1[i]?.map fun x=>tyS E x.2.2).getD []++[[59]]) p.1.length=p.1.flatMap fun x=>(deT E x).map J5:=by
  rw[<-zgy];refine flat_congr fun i c=>?_
  rw[Y6 (Yy.1 c)];simp only[X5,YY,deT,Yf,Yj,YG,zap,tT_txt,JC,YD,Xc]
  rfl
 rw[h];simp only[Xe]
 rfl
theorem programmed_any (E D d m:Nat) (x:P13) (p:Pr E D d m) (w:Zw) (G:PrIs w E D d m x p) (I:zb9 E D d m p=true) (hz:szPr E D d m p<=20000):Leaves 8 #[x.val] w (prS E D d m p):=by
 obtain⟨pd,nd,cd,pm,nm,cm,pf,nf,cf,X⟩:=x;obtain⟨v1,v2,v3,v4⟩:=G;obtain⟨J,L,M,U⟩:=zfe I;dsimp only at v1 v2 v3 v4;have V:=v1.len;have Y:=v2.len;have Z:=v3.len;subst V Y Z;have hle:=prS_le p;have aa:=hz;unfold szPr at hz;have hc:=coS_le p.2.2.2;have h1:p.1.length<=szDs E p.1:=zcp _ (fun x=>by omega) _;have h2:p.2.1.length<=zhr E D d m p.2.1:=zcp _ (fun x=>by unfold zei;omega) _;have h3:p.2.2.1.length<=zhr E D d m p.2.2.1:=zcp _ (fun x=>by unfold zei;omega) _;rw[<-prS_eq]at hle ⊢;rw[Y9]at hle;refine prog_strs X.A X.T.K X.O X.N X.T.S pd pm pf X.pq X.T.pn X.T.pe X.T.pp X.pb p.1.length cd p.2.1.length cm p.2.2.1.length cf X.nq X.cq X.T.nn X.T.cn X.T.ne X.T.ce X.T.np X.T.cp X.nb X.cb w _ _ _ _ _ ⟨by omega,by omega,by omega⟩ (by omega) (by omega) (fun k c=>?_) (fun k c=>?_) (fun k c=>?_) (fun W h=>zim E D d m X _ W (v4.below h) U (by omega))
 ·obtain⟨_,_,e,hp⟩:=v1;injection e with j s t
  subst j;obtain⟨g,o,y,rfl,_,r,a2,a3⟩:=hp k p.1[k] (by simp);have h4:=zls (Ys c);obtain⟨_,u⟩:=J p.1[k] (by simp);refine⟨g,o,y,rfl,?_,a2,?_,fun W h=>?_⟩
  ·rw[Y6 c];exact r
  ·rw[Y6 c];exact zfp ⟨_,u⟩
  ·rw[Y6 c];exact tys_any (TyValD.below h a3) u (by omega)
 ·obtain⟨_,_,e,hp⟩:=v2;injection e with j s t
  subst j;obtain⟨g,o,y,rfl,a0,r⟩:=hp k p.2.1[k] (by simp);refine⟨g,o,y,rfl,a0,fun W h=>?_⟩;rw[Y6 c];exact zim E D d m y _ W (r.below h) (L _ (by simp)) (by have:=zhc (Ys c);omega)
 ·obtain⟨_,_,e,hp⟩:=v3;injection e with j s t
  subst j;obtain⟨g,o,y,rfl,a0,r⟩:=hp k p.2.2.1[k] (by simp);refine⟨g,o,y,rfl,a0,fun W h=>?_⟩;rw[Y6 c];exact zim E D d m y _ W (r.below h) (M _ (by simp)) (by have:=zhc (Ys c);omega)
end Go.Proofs.YtdcbglnhhbmpgaaGreatDoor
