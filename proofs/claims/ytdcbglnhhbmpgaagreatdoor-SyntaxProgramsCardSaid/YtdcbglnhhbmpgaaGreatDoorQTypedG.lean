import Derived.Test.YtdcbglnhhbmpgaaGreatDoorQSigG
set_option maxHeartbeats 8000000
set_option maxRecDepth 100000
namespace Go.Proofs.YtdcbglnhhbmpgaaGreatDoor
open Go Go.RowKit Lx
abbrev zff (K:Int) (S:Zy) (pn pe pp:Zo) (nn ne np cn ce cp:Nat) (w:Zw) (L:List Bs):Prop:=
 Zg 34 #[.agg #[Zi K,.string S,.slice pn nn cn,.slice pe ne ce,.slice pp np cp]] w fun e w'=>(∃u,e=.returned u/\w'.ownsRow w.heap.size 9 1 u L.length (za8 L))/\ZB w w'
theorem zcm (w:Zw) (O:Obj) (s:Bs):((w.alloc O).alloc (.cells #[.string ⟨s.toArray⟩] 9)).ownsRow w.heap.size 9 1 (.slice (Zs (w.heap.size+1) 0) 1 1) [s].length (za8 [s]):=by
 have:=(zc4 (w.alloc O) s).mono (base':=w.heap.size) (by simp);simpa using this
theorem typed_1 (S:Zy) (pn pe pp:Zo) (nn ne np cn ce cp:Nat) (w:Zw):zff 1 S pn pe pp nn ne np cn ce cp w [[105,110,116]]:=by
 have c:=J3 (zcm w (zdj 1 S pn pe pp nn ne np cn ce cp) [105,110,116]);go_enter Tryz.func34,Tryz.ntmps34;go_wp2;go_ret;exact⟨⟨_,rfl,c⟩,al2 _ _ _⟩
theorem typed_2 (S:Zy) (pn pe pp:Zo) (nn ne np cn ce cp:Nat) (w:Zw):zff 2 S pn pe pp nn ne np cn ce cp w [[98,111,111,108]]:=by
 have c:=J3 (zcm w (zdj 2 S pn pe pp nn ne np cn ce cp) [98,111,111,108]);go_enter Tryz.func34,Tryz.ntmps34;go_wp2;go_ret;exact⟨⟨_,rfl,c⟩,al2 _ _ _⟩
theorem typed_3 (S:Zy) (pn pe pp:Zo) (nn ne np cn ce cp:Nat) (w:Zw):zff 3 S pn pe pp nn ne np cn ce cp w [[116,101,120,116]]:=by
 have c:=J3 (zcm w (zdj 3 S pn pe pp nn ne np cn ce cp) [116,101,120,116]);go_enter Tryz.func34,Tryz.ntmps34;go_wp2;go_ret;exact⟨⟨_,rfl,c⟩,al2 _ _ _⟩
theorem typed_4 (S:Bs) (pn pe pp:Zo) (nn ne np cn ce cp:Nat) (w:Zw):zff 4 ⟨S.toArray⟩ pn pe pp nn ne np cn ce cp w [S]:=by
 have c:=J3 (zcm w (zdj 4 ⟨S.toArray⟩ pn pe pp nn ne np cn ce cp) S);go_enter Tryz.func34,Tryz.ntmps34;go_wp2;go_ret;exact⟨⟨_,rfl,c⟩,al2 _ _ _⟩
abbrev Leaves (F:FuncId) (args:Array Value) (W:Zw) (L:List Bs):Prop:=
 Zg F args W fun e w'=>(∃u,e=.returned u/\w'.ownsRow W.heap.size 9 1 u L.length (za8 L))/\ZB W w'
theorem ahead {s:Bs} {L:List Bs} {w W w1:Zw} {g0:Nat} {u:Value} (g:ZB w W) (t:g0=W.heap.size) (h:Below (W.alloc (.cells #[.string ⟨s.toArray⟩] 9)).heap.size (W.alloc (.cells #[.string ⟨s.toArray⟩] 9)) w1) (hu:w1.ownsRow (W.alloc (.cells #[.string ⟨s.toArray⟩] 9)).heap.size 9 1 u L.length (za8 L)) (hp:0<L.length) (M:L.length<=900000) :
  ∃(v:Value) (c:Zw),(Builtin.append_ #[27,27] 27 #[.slice (Zs g0 0) 1 1,u]).run Tryz.prog w1=.ok v c/\c.ownsRow w.heap.size 9 1 v (s::L).length (za8 (s::L))/\ZB w c:=by
 subst t;have x:=(zc4 W s).mono g.size;have G:=x.kept (Je h) (zan _);have j:ZB w w1:=bon (bon g (al1 _ _)) h;obtain⟨g2,U,rfl⟩:=za6 hu hp;obtain⟨g3,V,I,J,r⟩:=Left.appends G j.size (by simp;omega) hp (Qb hu);exact⟨_,I,J,by simpa[Nat.add_comm]using r.1,j.trans r.2.1⟩
theorem typed_5 (S:Zy) (pn pe:Zo) (nn ne cn ce cp:Nat) (w:Zw) (g o:Nat) (L:List Bs) (h:Int) (S':Zy) (j r t:Zo) (u G I J M c3:Nat) (hp:0<L.length) (hl:L.length<=900000)
  (a0:w.cell? ⟨g,o,none⟩=some (Zi h)) (U:w.cell? ⟨g,o+1,none⟩=some (.string S')) (a2:w.cell? ⟨g,o+2,none⟩=some (.slice j u G)) (a3:w.cell? ⟨g,o+3,none⟩=some (.slice r I J)) (a4:w.cell? ⟨g,o+4,none⟩=some (.slice t M c3))
  (V:∀W,ZB w W->Leaves 34 #[.agg #[Zi h,.string S',.slice j u G,.slice r I J,.slice t M c3]] W L) :
  zff 5 S pn pe (Zs g o) nn ne 1 cn ce cp w ([42]::L):=by
 have hg:=J2 a0;have Y:ZB w (w.alloc (zdj 5 S pn pe (Zs g o) nn ne 1 cn ce cp)):=al1 _ _;have c:ZB w ((w.alloc (zdj 5 S pn pe (Zs g o) nn ne 1 cn ce cp)).alloc (.cells #[.string ⟨#[42]⟩] 9)):=al2 _ _ _;have e0:=Zq c a0;have e1:=Zq c U;have e2:=Zq c a2;have e3:=Zq c a3;have e4:=Zq c a4;have Z:=J3 (V _ c);have HB:=J3 Y;clear V a0 U a2 a3 a4 Y c;go_enter Tryz.func34,Tryz.ntmps34;go_wp2_with (first
  | (go_at_call 34;refine Z.mono ?_;clear Z;rintro x w1 ⟨⟨u1,rfl,ab⟩,ac⟩;obtain⟨v2,W4,E2,ad,ae⟩:=ahead (s:=[42]) (g0:=w.heap.size+1) HB (by simp) ac ab hp hl;have aa:=J3 E2)
  | (at_builtin;refine J4 rfl (.tmp 25) (.tmp 30) 27 rfl rfl rfl aa ?_;clear aa))
 go_ret;exact⟨⟨_,rfl,ad⟩,ae⟩
theorem typed_7 (S:Zy) (pn pe pp:Zo) (nn ne np cn ce cp:Nat) (w:Zw) (L:List Bs) (hp:0<L.length) (t:L.length<=900000)
  (c:∀W,ZB w W->Leaves 59 #[.slice pp np cp] W L) :
  zff 7 S pn pe pp nn ne np cn ce cp w ([102,110]::L):=by
 have g:ZB w (w.alloc (zdj 7 S pn pe pp nn ne np cn ce cp)):=al1 _ _;have h:ZB w ((w.alloc (zdj 7 S pn pe pp nn ne np cn ce cp)).alloc (.cells #[.string ⟨#[102,110]⟩] 9)):=al2 _ _ _;have j:=J3 (c _ h);have u:=J3 g;clear c g h;go_enter Tryz.func34,Tryz.ntmps34;go_wp2_with (first
  | (go_at_call 59;refine j.mono ?_;clear j;rintro x w1 ⟨⟨V,rfl,G⟩,I⟩;obtain⟨v2,Y,J,M,U⟩:=ahead (s:=[102,110]) (g0:=w.heap.size+1) u (by simp) I G hp t;have r:=J3 J)
  | (at_builtin;refine J4 rfl (.tmp 34) (.tmp 37) 27 rfl rfl rfl r ?_;clear r))
 go_ret;exact⟨⟨_,rfl,M⟩,U⟩
theorem sig_enter (args:Array Value) (w:Zw):Sem.run Tryz.prog (callFunc 59 args) w=.ok (.enter 59 args) w:=by kernel_rfl
theorem src1 (W:Zw) (s:Bs):SRow (W.alloc (.cells #[.string ⟨s.toArray⟩] 9)) (.slice (Zs W.heap.size 0) 1 1) [s]/\∀g,(Value.slice (Zs W.heap.size 0) 1 1).ownBlock=some g->W.heap.size<=g/\g<(W.alloc (.cells #[.string ⟨s.toArray⟩] 9)).heap.size:=
 ⟨srow1 (hp1 W _),fun g c=>by
  obtain rfl:W.heap.size=g:=by simpa[Value.ownBlock]using c
  simp⟩
def v19 (b k g on c op:Nat) (vn:Value) (s:Zy) (vp v3:Value):List (Option Value):=[none,some (.pointer (Zs b 2)),some (vn),some (Zi (k:Int)),some (.pointer (Zs g (on+k))),some (.string s),none,none,some (.pointer (Zs b 4)),some (vp),some (Zi (k:Int)),some (.pointer (Zs c (op+k*5))),some (.pointer (Zs c (op+k*5+4))),some (v3),none,none,none,none,none]
def ifS (ns:List Bs) (c:Nat->List Bs) (k:Nat):List Bs:=[105,110,116,101,114,102,97,99,101]::[123]::(List.range k).flatMap fun i=>[ns.getD i []]++c i++[[59]]
theorem ifS_succ (ns:List Bs) (c:Nat->List Bs) (k:Nat):ifS ns c (k+1)=ifS ns c k++[ns.getD k []]++c k++[[59]]:=by
 unfold ifS;rw[YA,YO];simp
theorem zhy {f:Nat->Nat}:∀{k n:Nat},k<=n->((List.range k).map f).sum<=((List.range n).map f).sum
 | k,0,h=>by
  obtain rfl:k=0:=by omega
  exact Y5 _
 | k,n+1,h=>by
  by_cases e:k=n+1
  ·rw[e];exact Y5 _
  ·have:=zhy (f:=f) (k:=k) (n:=n) (by omega);rw[YA,Yj,Yx];simp;omega
theorem ifS_len (ns:List Bs) (c:Nat->List Bs) (k:Nat):(ifS ns c k).length=2+2*k+((List.range k).map fun i=>(c i).length).sum:=by
 induction k with
 | zero=>simp[ifS]
 | succ k g=>rw[ifS_succ,YA,Yj,Yx];simp[g];omega
theorem zi5 (w:Zw) (s t:Bs):(w.alloc (.cells #[.string ⟨s.toArray⟩,.string ⟨t.toArray⟩] 9)).ownsRow w.heap.size 9 1 (.slice (Zs w.heap.size 0) 2 2) [s,t].length (za8 [s,t]):=
 ⟨rfl,.inr ⟨w.heap.size,2,_,rfl,Y5 _,Jm w _,Y5 _,by decide,rfl,rfl⟩⟩
theorem typed_8 (S:Zy) (pn pe pp:Zo) (ne cn ce cp n:Nat) (w:Zw) (ns:List Bs) (I:Nat->List Bs) (aJ:n=ns.length) (bm:n<=60000) (aK:((List.range n).map fun i=>(I i).length).sum<=300000)
  (aL:SRow w (.slice pn n cn) ns)
  (aM:∀k,k<n->∃(Z op:Nat) (ac:Zo) (ad c3:Nat),pp=some ⟨Z,op,none⟩/\w.cell? ⟨Z,op+k*5+4,none⟩=some (.slice ac ad c3)/\0<(I k).length/\∀W,ZB w W->Leaves 59 #[.slice ac ad c3] W (I k)) :
  zff 8 S pn pe pp n ne n cn ce cp w (ifS ns I n++[[125]]):=by
 obtain⟨L,ae⟩:=Ze (ifS ns I n++[[125]])
 have au:=J3 aJ;clear aJ;rw[<-ae];have aN:=J3 ae;have av:=J3 aM;have aw:=J3 aL;have aO:=J3 aK;obtain⟨w1,ah⟩:=Ze (w.alloc (zdj 8 S pn pe pp n ne n cn ce cp))
 have aP:=J3 ah;have ax:ZB w w1:=by rw[ah];exact al1 _ _
 have aQ:=J3 (zi5 w1 [105,110,116,101,114,102,97,99,101] [123]);rw[ah]at aQ;have aR:=J3 (al1 w1 (.cells #[.string ⟨#[105,110,116,101,114,102,97,99,101]⟩,.string ⟨#[123]⟩] 9));rw[ah]at aR;clear ae aM aL aK ah;go_enter Tryz.func34,Tryz.ntmps34;go_wp2
 go_loopw [3,4] (fun o i wr=>∃(k:Nat) (al:Value),i=Zi k/\o=al/\k<=n/\ZH (wr.ownsRow w1.heap.size 9 1 al (ifS ns I k).length (za8 (ifS ns I k))/\ZB w1 wr)) (fun _ i _=>n-(intOf i).toNat)
 case atStart=>
  refine⟨0,_,rfl,rfl,by omega,?_⟩;rw[J0 aP];exact⟨by simpa[ifS]using J0 aQ,aR⟩
 case round=>
  obtain⟨k,al,rfl,aS,a8,ay⟩:=hrel;have a9:=aS.symm;clear aS;subst a9;obtain⟨ai,af⟩:=J0 ay;have hlen:=ifS_len ns I k;have aT:=zhy (f:=fun i=>(I i).length) a8;have az:=J0 aO;have am:∀W,ZB w1 W->_:=fun W (h:ZB w1 W)=>ze4 (w:=w) (K:=8) (S:=S) (pn:=pn) (pe:=pe) (pp:=pp) (nn:=n) (ne:=ne) (np:=n) (cn:=cn) (ce:=ce) (cp:=cp) (wr:=W) (by rw[<-J0 aP];exact h)
  obtain⟨d0,d1,d2,d3,d4⟩:=am _ af;by_cases aA:k<n
  ·have a':(k:Int)<(n:Int):=by omega
   have aU:(k:Int)<(n:Int):=by omega
   obtain⟨Z,op,ac,ad,c3,rfl,aB,aV,aC⟩:=av k aA;obtain⟨bn,bo,ba,aW⟩:=J0 aw;injection ba with bb bp bq
   subst bb;obtain⟨an,on,rfl,aj⟩:=aW k (ns[k]'(by have:=J0 au;omega)) (by simp);have aX:ns[k]'(by have:=J0 au;omega)=ns.getD k []:=by rw[Yo,Y6 (by have:=J0 au;omega)];rfl
   rw[aX]at aj;have aY:((List.range k).map fun i=>(I i).length).sum+(I k).length<=300000:=by
    have ak:=zhy (f:=fun i=>(I i).length) (show k+1<=n by omega);rw[YA,Yj,Yx]at ak;simp at ak az;omega
   have aZ:=J3 (ifS_succ ns I k);obtain⟨L0,aD⟩:=Ze (ifS ns I k)
   obtain⟨LT,aE⟩:=Ze (I k)
   obtain⟨nm,aF⟩:=Ze (ns.getD k [])
   rw[<-aD,<-aE,<-aF]at aZ;rw[<-aD]at ai hlen;rw[<-aE]at aC aV aY;rw[<-aF]at aj;have bc:=J3 ai;have br:L0.length<=500000:=by omega
   have bt:LT.length<=300000:=by omega
   obtain⟨B,ao,a1,sB,ap,aq⟩:=Zx w1
   have ar:∀W,B W->ZB w W:=fun W h=>bon ax (ao W h)
   have aG:∀W,B W->_:=fun W h=>am W (ao W h)
   have a2:∀W,B W->W.cell? ⟨an,on+k,none⟩=some (.string ⟨nm.toArray⟩):=fun W h=>((ar W h).cell (p:=⟨an,_,none⟩) (J2 aj)).trans aj
   have a3:∀W,B W->W.cell? ⟨Z,op+k*5+4,none⟩=some (.slice ac ad c3):=fun W h=>((ar W h).cell (p:=⟨Z,_,none⟩) (J2 aB)).trans aB
   have a4:∀W,B W->Leaves 59 #[.slice ac ad c3] W LT:=fun W h=>aC W (ar W h)
   clear ai ay hlen aT az am aC av aw aW aD aE aF aY aj aB aN aO aX;go_wp2_with fail;refine JL (n:=106) Zk Zk Zk rfl B (VP (v19 w.heap.size k an on Z op (.slice (Zs an on) n cn) ⟨nm.toArray⟩ (.slice (Zs Z op) n cp) (.slice ac ad c3))) (XCh w1.heap.size 0 18 (some al) L0 [(7,6,[nm]),(15,14,LT),(17,16,[[59]])])
    (a1 _ (Jb af)) (Qd (fun v be=>Y1 be ▸ bc.drew)) ?each ?fin
   case each=>
    refine⟨?_,?_,?_,?_,?_,?_,?_,?_,?_,?_,?_,?_,?_,?_,?_,?_,?_,?_,?_,trivial⟩
    ·refine Qg rfl (by decide) (by simp) rfl rfl rfl (fun f down J=>?_) (fun r f c aA bf=>?_)
     ·have U:=J6 down (i:=7) (j:=0) Zk J;have V:=J6 down (i:=15) (j:=7) Zk U;have Y:=J6 down (i:=17) (j:=15) Zk V;have aa:=J6 down (i:=18) (j:=17) Zk Y;exact⟨aa,by simp[U,V,Y]⟩
     ·exact aA 3 18 Zk bf
    ·exact Yp sB fun r W c t dep=>zk8 (by decide) rfl (show r.eval (.tmp 1)=Value.pointer (Zs w.heap.size 0)from c 1 Zk) ⟨_,rfl,Zr,rfl⟩
    ·exact Yp sB fun r W c t dep=>zkl rfl (dep 1 50 _ Zk Zk rfl) (aG W t).2.2.1 ⟨_,rfl,Zr,rfl⟩
    ·exact Yp sB fun r W c t dep=>Jp rfl (show r.eval (.tmp 4)=Zi (k:Int)from c 4 Zk) ⟨_,rfl,Zr,rfl⟩
    ·exact Yp sB fun r W c t dep=>ziq rfl (dep 2 51 _ Zk Zk rfl) (dep 3 52 _ Zk Zk rfl) aU ⟨_,rfl,Zr,rfl⟩
    ·exact Yp sB fun r W c t dep=>zaz rfl (dep 4 53 _ Zk Zk rfl) (a2 W t) ⟨_,rfl,Zr,rfl⟩
    ·exact Qf (M:=[nm]) sB (by decide) (by decide) (by simp) rfl (fun r W hz c t dep=>⟨J1 rfl,zb7 rfl (dep 5 54 _ Zk Zk rfl) ⟨_,rfl,al1 _ _,src1 W nm⟩⟩)
    ·refine Qi (q:=0) (s:=6) (Lq:=L0) (M:=[nm]) ap aq (by decide) rfl rfl rfl rfl (by simp) (by simp) (by simp;omega) (by simp) Zk Zk Zk Zk (fun f v down J G=>?_);have V:=J6 down (i:=15) (j:=7) Zk J;have Y:=J6 down (i:=17) (j:=15) Zk V;have aa:=J6 down (i:=18) (j:=17) Zk Y;exact⟨aa,by simp[Js,Jw,G,J],by simp[Jk,J],fun x=>⟨by simp[Js,Jw,JT,G,V],by simp[Jk,JT,V]⟩⟩
    ·exact Yp sB fun r W c t dep=>zk8 (by decide) rfl (show r.eval (.tmp 1)=Value.pointer (Zs w.heap.size 0)from c 1 Zk) ⟨_,rfl,Zr,rfl⟩
    ·exact Yp sB fun r W c t dep=>zk4 rfl (dep 8 57 _ Zk Zk rfl) (aG W t).2.2.2.2 ⟨_,rfl,Zr,rfl⟩
    ·exact Yp sB fun r W c t dep=>Jp rfl (show r.eval (.tmp 4)=Zi (k:Int)from c 4 Zk) ⟨_,rfl,Zr,rfl⟩
    ·exact Yp sB fun r W c t dep=>zi8 rfl (dep 9 58 _ Zk Zk rfl) (dep 10 59 _ Zk Zk rfl) aU ⟨_,rfl,Zr,rfl⟩
    ·exact Yp sB fun r W c t dep=>op_field5 rfl (dep 11 60 _ Zk Zk rfl) ⟨_,rfl,Zr,rfl⟩
    ·exact Yp sB fun r W c t dep=>zk4 rfl (dep 12 61 _ Zk Zk rfl) (a3 W t) ⟨_,rfl,Zr,rfl⟩
    ·exact Qf (M:=LT) sB (by decide) (by decide) (by simp) rfl (fun r W hz c t dep=>⟨J1 rfl,zai rfl (dep 13 62 _ Zk Zk rfl) sig_enter ((a4 W t).mono fun e w' ⟨⟨u,he,ak⟩,af⟩=>⟨u,he,u,rfl,af,Qb ak,fun g bg=>ak.lt g bg⟩)⟩)
    ·refine Qi (q:=7) (s:=14) (Lq:=(L0++[nm])) (M:=LT) ap aq (by decide) rfl rfl rfl rfl (by simp) aV (by simp;omega) (by simp) Zk Zk Zk Zk (fun f v down J G=>?_);obtain⟨v0,ab⟩:=Y4.1 (down 7 0 Zk (by rw[G];simp));have Y:=J6 down (i:=17) (j:=15) Zk J;have aa:=J6 down (i:=18) (j:=17) Zk Y;exact⟨aa,by simp[Js,Jw,ab,G,J],by simp[Jk,G,J],fun x=>⟨by simp[Js,Jw,JT,ab,G,Y],by simp[Jk,JT,G,Y]⟩⟩
    ·exact Qf (M:=[[59]]) sB (by decide) (by decide) (by simp) rfl (fun r W hz c t dep=>⟨J1 rfl,zb7 (s:=⟨#[59]⟩) rfl rfl ⟨_,rfl,al1 _ _,src1 W [59]⟩⟩)
    ·refine Qi (q:=15) (s:=16) (Lq:=(L0++[nm]++LT)) (M:=[[59]]) ap aq (by decide) rfl rfl rfl rfl (by simp) (by simp) (by simp;omega) (by simp) Zk Zk Zk Zk (fun f v down J G=>?_);obtain⟨bh,U⟩:=Y4.1 (down 15 7 Zk (by rw[G];simp));obtain⟨v0,ab⟩:=Y4.1 (down 7 0 Zk (by rw[U];simp));have aa:=J6 down (i:=18) (j:=17) Zk J;exact⟨aa,by simp[Js,Jw,ab,U,G,J],by simp[Jk,U,G,J],fun x=>⟨by simp[Js,Jw,JT,ab,U,G],by simp[Jk,JT,U,G]⟩⟩
    ·refine Qj (q:=17) (by decide) (by simp) rfl rfl rfl Zk Zk (fun f v down G=>?_);obtain⟨bu,V⟩:=Y4.1 (down 17 15 Zk (by rw[G];simp));obtain⟨bh,U⟩:=Y4.1 (down 15 7 Zk (by rw[V];simp));obtain⟨v0,ab⟩:=Y4.1 (down 7 0 Zk (by rw[U];simp));simp[Js,Jw,G,ab,U,V]
   case fin=>
    intro r W f hz bi c t ag bj aH;have a5:(∃v,f 0=some v)/\(∃v,f 7=some v)/\(∃v,f 15=some v)/\(∃v,f 17=some v):=⟨⟨_,ag 0 49 Zk⟩,⟨_,ag 7 56 Zk⟩,⟨_,ag 15 64 Zk⟩,⟨_,ag 17 66 Zk⟩⟩
    have ae:Jk f L0 [(7,6,[nm]),(15,14,LT),(17,16,[[59]])]=(L0++[nm]++LT++[[59]]):=by
     obtain⟨⟨_,_⟩,⟨_,U⟩,⟨_,V⟩,⟨_,Y⟩⟩:=a5;simp[Jk,U,V,Y]
    obtain⟨aI,_⟩:=aH.2.2 _ (aH.1 _ (ag 18 3 Zk));rw[ae]at aI;have bk:=J3 (ao W t);rw[JZ hz rfl bi c];clear ag bj aH c a5 ae aG a2 a3 a4 sB ap aq ar ao a1;generalize bl:r.tmps.getD 3 undef=v3 at aI;simp only[List.foldl,Option.getD];rw[bl];go_wp2;go_roundw
    case rel=>exact⟨k+1,by omega,by omega,(by rw[J0 aZ];exact aI),bk⟩
    case measure=>simp[intOf];omega
  ·obtain rfl:k=n:=by omega
   have a':¬(k:Int)<(k:Int):=by omega
   obtain⟨g1,bv,bw,E,a6⟩:=Left.append (s:=[125]) ai af.size (by omega);have a7:=J3 E;clear E am hlen aT az ay av aw;obtain⟨bz,bA,rfl,_⟩:=Jh ai;go_wp2_with (at_builtin;refine J4 rfl (.tmp 67) (.tmp 68) 27 rfl rfl rfl a7 ?_;clear a7);go_ret;exact⟨⟨_,rfl,by rw[J0 aN];simpa using a6.1.mono ax.size⟩,bon ax ((af).trans a6.2.1)⟩
def v27 (b k c on g op:Nat) (vn:Value) (s:Zy) (vp v3:Value):List (Option Value):=[none,some (.pointer (Zs b 2)),some (vn),some (Zi (k:Int)),some (.pointer (Zs c (on+k))),some (.string s),none,none,some (.pointer (Zs b 4)),some (vp),some (Zi (k:Int)),some (.pointer (Zs g (op+k*5))),some (v3),none,none,none,none,none]
def embS (es:List Bool) (k:Nat):List Bs:=if es.getD k false=true then[[101,109,98,101,100]]else[]
def reS (ns:List Bs) (es:List Bool) (c:Nat->List Bs) (k:Nat):List Bs:=[123]::(List.range k).flatMap fun i=>embS es i++[ns.getD i []]++c i++[[59]]
theorem reS_succ (ns:List Bs) (es:List Bool) (c:Nat->List Bs) (k:Nat):reS ns es c (k+1)=reS ns es c k++embS es k++[ns.getD k []]++c k++[[59]]:=by
 unfold reS;rw[YA,YO];simp
theorem emb_len (es:List Bool) (k:Nat):(embS es k).length<=1:=by unfold embS;split <;> simp
theorem reS_len (ns:List Bs) (es:List Bool) (c:Nat->List Bs) (k:Nat):(reS ns es c k).length<=1+3*k+((List.range k).map fun i=>(c i).length).sum:=by
 induction k with
 | zero=>simp[reS]
 | succ k g=>rw[reS_succ,YA,Yj,Yx];have:=emb_len es k;simp;omega
theorem typed_6 (S:Zy) (pn pe pp:Zo) (cn ce cp n:Nat) (w:Zw) (ns:List Bs) (es:List Bool) (I:Nat->List Bs) (a9:n=ns.length) (a':n=es.length) (bU:n<=60000) (ba:((List.range n).map fun i=>(I i).length).sum<=300000)
  (bb:SRow w (.slice pn n cn) ns) (bc:BRow w (.slice pe n ce) es)
  (be:∀k,k<n->∃(J op:Nat) (af:Int) (S':Zy) (ag ah ai:Zo) (aj ak al am an c3:Nat),pp=some ⟨J,op,none⟩/\w.cell? ⟨J,op+k*5,none⟩=some (Zi af)/\w.cell? ⟨J,op+k*5+1,none⟩=some (.string S')/\w.cell? ⟨J,op+k*5+2,none⟩=some (.slice ag aj ak)/\w.cell? ⟨J,op+k*5+3,none⟩=some (.slice ah al am)/\w.cell? ⟨J,op+k*5+4,none⟩=some (.slice ai an c3)/\0<(I k).length/\∀W,ZB w W->Leaves 34 #[.agg #[Zi af,.string S',.slice ag aj ak,.slice ah al am,.slice ai an c3]] W (I k)) :
  zff 6 S pn pe pp n n n cn ce cp w (reS ns es I n++[[125]]):=by
 obtain⟨L,ao⟩:=Ze (reS ns es I n++[[125]])
 have ap:=J3 (And.intro a9 a');clear a9 a';rw[<-ao];have bf:=J3 ao;have aJ:=J3 be;have aK:=J3 bb;have aL:=J3 bc;have bg:=J3 ba;obtain⟨w1,av⟩:=Ze (w.alloc (zdj 6 S pn pe pp n n n cn ce cp))
 have bh:=J3 av;have aB:ZB w w1:=by rw[av];exact al1 _ _
 have bi:=J3 (zc4 w1 [123]);rw[av]at bi;have bj:=J3 (al1 w1 (.cells #[.string ⟨#[123]⟩] 9));rw[av]at bj;clear ao be bb bc ba av;go_enter Tryz.func34,Tryz.ntmps34;go_wp2
 go_loopw [5,6] (fun o i wr=>∃(k:Nat) (aw:Value),i=Zi k/\o=aw/\k<=n/\ZH (wr.ownsRow w1.heap.size 9 1 aw (reS ns es I k).length (za8 (reS ns es I k))/\ZB w1 wr)) (fun _ i _=>n-(intOf i).toNat)
 case atStart=>
  refine⟨0,_,rfl,rfl,by omega,?_⟩;rw[J0 bh];exact⟨by simpa[reS]using J0 bi,bj⟩
 case round=>
  obtain⟨k,aw,rfl,ax,bF,aM⟩:=hrel;have aN:=ax.symm;clear ax;subst aN;obtain⟨aa,Y⟩:=J0 aM;have hlen:=reS_len ns es I k;have bk:=zhy (f:=fun i=>(I i).length) bF;have aO:=J0 bg;have aC:∀W,ZB w1 W->_:=fun W (h:ZB w1 W)=>ze4 (w:=w) (K:=6) (S:=S) (pn:=pn) (pe:=pe) (pp:=pp) (nn:=n) (ne:=n) (np:=n) (cn:=cn) (ce:=ce) (cp:=cp) (wr:=W) (by rw[<-J0 bh];exact h)
  obtain⟨d0,d1,d2,d3,d4⟩:=aC _ Y;by_cases aP:k<n
  ·have bG:(k:Int)<(n:Int):=by omega
   have bl:(k:Int)<(n:Int):=by omega
   obtain⟨J,op,af,S',ag,ah,ai,aj,ak,al,am,an,c3,rfl,aQ,aR,aS,aT,aU,bm,aV⟩:=aJ k aP;obtain⟨bV,bW,aW,bn⟩:=J0 aK;injection aW with aX aY aZ
   subst aX;clear aY aZ;obtain⟨aD,on,rfl,ay⟩:=bn k (ns[k]'(by have:=J0 ap;omega)) (by simp);have bo:ns[k]'(by have:=J0 ap;omega)=ns.getD k []:=by rw[Yo,Y6 (by have:=J0 ap;omega)];rfl
   rw[bo]at ay;obtain⟨bX,bY,aW,bp⟩:=J0 aL;injection aW with aX aY aZ
   subst aX;clear aY aZ;obtain⟨ge,bZ,rfl,aE⟩:=bp k (es[k]'(by have:=J0 ap;omega)) (by simp);have bq:es[k]'(by have:=J0 ap;omega)=es.getD k false:=by rw[Yo,Y6 (by have:=J0 ap;omega)];rfl
   rw[bq]at aE;have br:=((bon aB Y).cell (p:=⟨ge,_,none⟩) (J2 aE)).trans aE;have bt:((List.range k).map fun i=>(I i).length).sum+(I k).length<=300000:=by
    have az:=zhy (f:=fun i=>(I i).length) (show k+1<=n by omega);rw[YA,Yj,Yx]at az;simp at az aO;omega
   have bu:=J3 (reS_succ ns es I k);obtain⟨a1,aq⟩:=Ze (reS ns es I k)
   obtain⟨L0,aF⟩:=Ze (a1++embS es k)
   obtain⟨LT,a2⟩:=Ze (I k)
   obtain⟨nm,a3⟩:=Ze (ns.getD k [])
   rw[<-aq,<-a2,<-a3,<-aF]at bu;rw[<-aq]at aa hlen;rw[<-a2]at aV bm bt;rw[<-a3]at ay;have b1:a1.length<=500000:=by omega
   have b2:L0.length<=500001:=by rw[aF,Y9];have:=emb_len es k;omega
   have b3:LT.length<=300000:=by omega
   obtain⟨em,a4⟩:=Ze (es.getD k false)
   have bv:L0=a1++(if em=true then[[101,109,98,101,100]]else[]):=by rw[aF,embS,a4]
   have a5:=J3 bv;rw[<-a4]at br;clear aM hlen bk aO aJ aK bn bp aq aF bv a2 a3 bt bf bg bo bq a4 aE aL;go_upto_if 82 with fail
   go_cut [5] (fun o wx=>∃v1,o=v1/\ZH (wx.ownsRow w1.heap.size 9 1 v1 L0.length (za8 L0)/\ZB w1 wx))
   case first=>
    cases em
    ·have bw:=J0 a5;rw[Y7 (by decide),X7]at bw;subst bw;go_wp2;go_meet
     case rel=>exact⟨_,rfl,aa,Y⟩
    ·obtain⟨g1,bH,bI,E,bz⟩:=Left.append (s:=[101,109,98,101,100]) aa Y.size (by omega);have aA:=J3 E;obtain⟨bJ,bK,rfl,_⟩:=Jh aa;clear E;go_wp2_with (at_builtin;refine J4 rfl (.tmp 83) (.tmp 84) 27 rfl rfl rfl aA ?_;clear aA);go_meet
     case rel=>exact⟨_,rfl,(by rw[J0 a5];simpa using bz.1),Y.trans bz.2.1⟩
   case rest=>
    clear aa Y d0 d1 d2 d3 d4 a5 br;obtain⟨aw,ax,bA⟩:=hcut;have aN:=ax.symm;clear ax;subst aN;obtain⟨aa,Y⟩:=J0 bA;have bL:=J3 aa;obtain⟨B,aG,bB,sB,aH,aI⟩:=Zx w1
    have ac:∀W,B W->ZB w W:=fun W h=>bon aB (aG W h)
    have a6:∀W,B W->_:=fun W h=>aC W (aG W h)
    have bC:∀W,B W->W.cell? ⟨aD,on+k,none⟩=some (.string ⟨nm.toArray⟩):=fun W h=>((ac W h).cell (p:=⟨aD,_,none⟩) (J2 ay)).trans ay
    have ar:∀W,B W->ZK5 W J (op+k*5) (Zi af) (.string S') (.slice ag aj ak) (.slice ah al am) (.slice ai an c3):=fun W h=>⟨((ac W h).cell (p:=⟨J,_,none⟩) (J2 aQ)).trans aQ,((ac W h).cell (p:=⟨J,_,none⟩) (J2 aR)).trans aR,((ac W h).cell (p:=⟨J,_,none⟩) (J2 aS)).trans aS,((ac W h).cell (p:=⟨J,_,none⟩) (J2 aT)).trans aT,((ac W h).cell (p:=⟨J,_,none⟩) (J2 aU)).trans aU⟩
    have bD:∀W,B W->Leaves 34 #[.agg #[Zi af,.string S',.slice ag aj ak,.slice ah al am,.slice ai an c3]] W LT:=fun W h=>aV W (ac W h)
    clear aa bA aC aV ay aQ aR aS aT aU;go_wp2_with fail;refine JL (n:=106) Zk Zk Zk rfl B (VP (v27 w.heap.size k aD on J op (.slice (Zs aD on) n cn) ⟨nm.toArray⟩ (.slice (Zs J op) n cp) (.agg #[Zi af,.string S',.slice ag aj ak,.slice ah al am,.slice ai an c3]))) (XCh w1.heap.size 0 17 (some aw) L0 [(7,6,[nm]),(14,13,LT),(16,15,[[59]])])
     (bB _ (Jb Y)) (Qd (fun v bM=>Y1 bM ▸ bL.drew)) ?each ?fin
    case each=>
     refine⟨?_,?_,?_,?_,?_,?_,?_,?_,?_,?_,?_,?_,?_,?_,?_,?_,?_,?_,trivial⟩
     ·refine Qg rfl (by decide) (by simp) rfl rfl rfl (fun f down U=>?_) (fun t f r aP bN=>?_)
      ·have V:=J6 down (i:=7) (j:=0) Zk U;have Z:=J6 down (i:=14) (j:=7) Zk V;have ab:=J6 down (i:=16) (j:=14) Zk Z;have ad:=J6 down (i:=17) (j:=16) Zk ab;exact⟨ad,by simp[V,Z,ab]⟩
      ·exact aP 5 17 Zk bN
     ·exact Yp sB fun t W r c dep=>zk8 (by decide) rfl (show t.eval (.tmp 1)=Value.pointer (Zs w.heap.size 0)from r 1 Zk) ⟨_,rfl,Zr,rfl⟩
     ·exact Yp sB fun t W r c dep=>zkl rfl (dep 1 87 _ Zk Zk rfl) (a6 W c).2.2.1 ⟨_,rfl,Zr,rfl⟩
     ·exact Yp sB fun t W r c dep=>Jp rfl (show t.eval (.tmp 6)=Zi (k:Int)from r 6 Zk) ⟨_,rfl,Zr,rfl⟩
     ·exact Yp sB fun t W r c dep=>ziq rfl (dep 2 88 _ Zk Zk rfl) (dep 3 89 _ Zk Zk rfl) bl ⟨_,rfl,Zr,rfl⟩
     ·exact Yp sB fun t W r c dep=>zaz rfl (dep 4 90 _ Zk Zk rfl) (bC W c) ⟨_,rfl,Zr,rfl⟩
     ·exact Qf (M:=[nm]) sB (by decide) (by decide) (by simp) rfl (fun t W hz r c dep=>⟨J1 rfl,zb7 rfl (dep 5 91 _ Zk Zk rfl) ⟨_,rfl,al1 _ _,src1 W nm⟩⟩)
     ·refine Qi (q:=0) (s:=6) (Lq:=L0) (M:=[nm]) aH aI (by decide) rfl rfl rfl rfl (by simp) (by simp) (by simp;omega) (by simp) Zk Zk Zk Zk (fun f v down U G=>?_);have Z:=J6 down (i:=14) (j:=7) Zk U;have ab:=J6 down (i:=16) (j:=14) Zk Z;have ad:=J6 down (i:=17) (j:=16) Zk ab;exact⟨ad,by simp[Js,Jw,G,U],by simp[Jk,U],fun x=>⟨by simp[Js,Jw,JT,G,Z],by simp[Jk,JT,Z]⟩⟩
     ·exact Yp sB fun t W r c dep=>zk8 (by decide) rfl (show t.eval (.tmp 1)=Value.pointer (Zs w.heap.size 0)from r 1 Zk) ⟨_,rfl,Zr,rfl⟩
     ·exact Yp sB fun t W r c dep=>zk4 rfl (dep 8 94 _ Zk Zk rfl) (a6 W c).2.2.2.2 ⟨_,rfl,Zr,rfl⟩
     ·exact Yp sB fun t W r c dep=>Jp rfl (show t.eval (.tmp 6)=Zi (k:Int)from r 6 Zk) ⟨_,rfl,Zr,rfl⟩
     ·exact Yp sB fun t W r c dep=>zi8 rfl (dep 9 95 _ Zk Zk rfl) (dep 10 96 _ Zk Zk rfl) bl ⟨_,rfl,Zr,rfl⟩
     ·exact Yp sB fun t W r c dep=>zmo rfl (dep 11 97 _ Zk Zk rfl) (ar W c).1 (ar W c).2.1 (ar W c).2.2.1 (ar W c).2.2.2.1 (ar W c).2.2.2.2 ⟨_,rfl,Zr,rfl⟩
     ·exact Qf (M:=LT) sB (by decide) (by decide) (by simp) rfl (fun t W hz r c dep=>⟨J1 rfl,zai rfl (dep 12 98 _ Zk Zk rfl) zd0 ((bD W c).mono fun e w' ⟨⟨u,he,az⟩,Y⟩=>⟨u,he,u,rfl,Y,Qb az,fun g bO=>az.lt g bO⟩)⟩)
     ·refine Qi (q:=7) (s:=13) (Lq:=(L0++[nm])) (M:=LT) aH aI (by decide) rfl rfl rfl rfl (by simp) bm (by simp;omega) (by simp) Zk Zk Zk Zk (fun f v down U G=>?_);obtain⟨v0,ae⟩:=Y4.1 (down 7 0 Zk (by rw[G];simp));have ab:=J6 down (i:=16) (j:=14) Zk U;have ad:=J6 down (i:=17) (j:=16) Zk ab;exact⟨ad,by simp[Js,Jw,ae,G,U],by simp[Jk,G,U],fun x=>⟨by simp[Js,Jw,JT,ae,G,ab],by simp[Jk,JT,G,ab]⟩⟩
     ·exact Qf (M:=[[59]]) sB (by decide) (by decide) (by simp) rfl (fun t W hz r c dep=>⟨J1 rfl,zb7 (s:=⟨#[59]⟩) rfl rfl ⟨_,rfl,al1 _ _,src1 W [59]⟩⟩)
     ·refine Qi (q:=14) (s:=15) (Lq:=(L0++[nm]++LT)) (M:=[[59]]) aH aI (by decide) rfl rfl rfl rfl (by simp) (by simp) (by simp;omega) (by simp) Zk Zk Zk Zk (fun f v down U G=>?_);obtain⟨bP,V⟩:=Y4.1 (down 14 7 Zk (by rw[G];simp));obtain⟨v0,ae⟩:=Y4.1 (down 7 0 Zk (by rw[V];simp));have ad:=J6 down (i:=17) (j:=16) Zk U;exact⟨ad,by simp[Js,Jw,ae,V,G,U],by simp[Jk,V,G,U],fun x=>⟨by simp[Js,Jw,JT,ae,V,G],by simp[Jk,JT,V,G]⟩⟩
     ·refine Qj (q:=16) (by decide) (by simp) rfl rfl rfl Zk Zk (fun f v down G=>?_);obtain⟨b4,Z⟩:=Y4.1 (down 16 14 Zk (by rw[G];simp));obtain⟨bP,V⟩:=Y4.1 (down 14 7 Zk (by rw[Z];simp));obtain⟨v0,ae⟩:=Y4.1 (down 7 0 Zk (by rw[V];simp));simp[Js,Jw,G,ae,V,Z]
    case fin=>
     intro t W f hz bQ r c au bR a7;have bE:(∃v,f 0=some v)/\(∃v,f 7=some v)/\(∃v,f 14=some v)/\(∃v,f 16=some v):=⟨⟨_,au 0 86 Zk⟩,⟨_,au 7 93 Zk⟩,⟨_,au 14 100 Zk⟩,⟨_,au 16 102 Zk⟩⟩
     have ao:Jk f L0 [(7,6,[nm]),(14,13,LT),(16,15,[[59]])]=(L0++[nm]++LT++[[59]]):=by
      obtain⟨⟨_,_⟩,⟨_,V⟩,⟨_,Z⟩,⟨_,ab⟩⟩:=bE;simp[Jk,V,Z,ab]
     obtain⟨a8,_⟩:=a7.2.2 _ (a7.1 _ (au 17 5 Zk));rw[ao]at a8;have bS:=J3 (aG W c);rw[JZ hz rfl bQ r];clear au bR a7 r bE ao a6 bC ar bD sB aH aI ac aG bB;generalize bT:t.tmps.getD 5 undef=v3 at a8;simp only[List.foldl,Option.getD];rw[bT];go_wp2;go_roundw
     case rel=>exact⟨k+1,v3,by go_num,rfl,by omega,(by rw[J0 bu];exact a8),bS⟩
     case measure=>simp[intOf];omega
  ·obtain rfl:k=n:=by omega
   have bG:¬(k:Int)<(k:Int):=by omega
   obtain⟨g1,bH,bI,E,aq⟩:=Left.append (s:=[125]) aa Y.size (by omega);have aA:=J3 E;clear E aC hlen bk aO aM aJ aK aL;obtain⟨bJ,bK,rfl,_⟩:=Jh aa;go_wp2_with (at_builtin;refine J4 rfl (.tmp 103) (.tmp 104) 27 rfl rfl rfl aA ?_;clear aA);go_ret;exact⟨⟨_,rfl,by rw[J0 bf];simpa using aq.1.mono aB.size⟩,bon aB ((Y).trans aq.2.1)⟩
def gS (d:Nat) (t:Ty d):List Bs:=(Jf d true t).map J5
theorem tyS_le (d:Nat) (t:Ty d):(tyS d t).length+1<=4*szD d t:=by
 have:=zdu d false t;simpa[tyS,cn]using this
theorem gS_le (d:Nat) (t:Ty d):(gS d t).length+1<=4*szD d t:=by
 have:=zdu d true t;simpa[gS,cn]using this
theorem zg2 {d:Nat} {t:Ty (d+1)} (h:∃room,JP (d+1) room t=true):zb6 d t=true/\∃room,Ju d room t.2.2.2.2=true:=by
 obtain⟨room,h⟩:=h;rw[zcz,ze8]at h;simp only[Yc]at h;exact⟨h.1.2,_,h.2⟩
theorem zfp:∀{d:Nat} {t:Ty d},(∃room,JP d room t=true)->0<(tyS d t).length
 | 0,t,_=>nomatch t
 | d+1,t,h=>by
  have:=toks_ne (zg2 h).1;rw[tyS,Xy];exact List.length_pos_iff.2 this
theorem gS_pos:∀{d:Nat} (t:Ty d),0<(gS d t).length
 | 0,t=>nomatch t
 | d+1,t=>by
  rw[gS,Xy,Jf];simp
theorem part_map {d:Nat} (c:List (Ty d)) (i:Nat) (s:Bool):((c[i]?.map (Jf d s)).getD []).map J5=(c[i]?.map fun t=>(Jf d s t).map J5).getD []:=by
 cases c[i]? <;> rfl
theorem tyS_1 {d:Nat} {t:Ty (d+1)} (h:t.1=1):tyS (d+1) t=[[105,110,116]]:=by
 rw[tyS,Jf];simp[h,zap]
theorem tyS_2 {d:Nat} {t:Ty (d+1)} (h:t.1=2):tyS (d+1) t=[[98,111,111,108]]:=by
 rw[tyS,Jf];simp[h,zap]
theorem tyS_3 {d:Nat} {t:Ty (d+1)} (h:t.1=3):tyS (d+1) t=[[116,101,120,116]]:=by
 rw[tyS,Jf];simp[h,zap]
theorem tT_text (s:Bs):J5 (tT s)=s:=by rw[JB (show(2:Int)≠4 by decide) (show(2:Int)≠5 by decide)];rfl
theorem tyS_4 {d:Nat} {t:Ty (d+1)} (h:t.1=4):tyS (d+1) t=[t.2.1]:=by
 rw[tyS,Jf];simp[h,tT_text]
theorem tyS_5 {d:Nat} {t:Ty (d+1)} (h:t.1=5) (c:t.2.2.2.2.length=1):tyS (d+1) t=[42]::tyS d (t.2.2.2.2[0]'(by omega)):=by
 rw[tyS,Jf];have:t.2.2.2.2[0]?=some (t.2.2.2.2[0]'(by omega)):=Y6 _;simp only[h,this];simp[JC,tyS]
theorem tyS_7 {d:Nat} {t:Ty (d+1)} (h:t.1=7):tyS (d+1) t=[102,110]::gS (d+1) t:=by
 rw[tyS,gS,Jf,Jf];simp[h,zap]
theorem tyS_6 {d:Nat} {t:Ty (d+1)} (h:t.1=6):tyS (d+1) t=reS t.2.2.1 t.2.2.2.1 (fun i=>(t.2.2.2.2[i]?.map (tyS d)).getD []) t.2.2.1.length++[[125]]:=by
 rw[tyS,Jf];simp only[h];simp only[Bool.false_eq_true,if_false,Int.reduceEq,if_true];rw[Yj,Yf,Xv,JC,reS];simp only[Yf,YG,JC]
 congr 3
 funext i
 rw[Yj,Yj,Yf,part_map,zdl];simp only[Yf,YG,JC,embS]
 split <;> (simp[zap];rfl)
theorem tyS_8 {d:Nat} {t:Ty (d+1)} (h:t.1=8):tyS (d+1) t=ifS t.2.2.1 (fun i=>(t.2.2.2.2[i]?.map (gS d)).getD []) t.2.2.1.length++[[125]]:=by
 rw[tyS,Jf];simp only[h];simp only[Bool.false_eq_true,if_false,Int.reduceEq,if_true];rw[Yj,Yf,Yf,Xv,JC,zap,ifS];simp only[Yf,YG,JC]
 congr 4
 funext i
 rw[Yj,Yf,part_map,zdl];simp only[Yf,YG,JC];simp
 rfl
theorem sum_part {d:Nat} (c:List (Ty d)) (f:Ty d->List Bs) (g:∀t,(f t).length<=4*szD d t) (n:Nat):((List.range n).map fun i=>((c[i]?.map f).getD []).length).sum<=4*szL d c:=by
 have e:(fun i:Nat=>((c[i]?.map f).getD []).length)=fun i:Nat=>(c[i]?.map fun t=>(f t).length).getD 0:=by
  funext i
  cases c[i]? <;> rfl
 rw[e];refine Yh (zfb c (fun t=>(f t).length) n) ?_;clear e
 induction c with
 | nil=>simp[szL]
 | cons x r h=>
  have:=g x;simp only[Yf,YM,szL]at h ⊢;omega
def SigP (d:Nat):Prop:=∀(t:Ty d) (h:Int) (S':Zy) (j r c:Zo) (s u x G g c3:Nat) (w:Zw),TyValD w d (.agg #[Zi h,.string S',.slice j s u,.slice r x G,.slice c g c3]) t->(∃room,JP d room t=true)->kindD d t=7->szD d t<=60000 ->
 Leaves 59 #[.slice c g c3] w (gS d t)
theorem sigP_zero:SigP 0:=fun t=>nomatch t
theorem fn_parts {d:Nat} {t:Ty (d+1)} (h:t.1=7) (c:zb6 d t=true):0<t.2.2.2.2.length:=by
 unfold zb6 at c;rw[h]at c;simp[JF]at c;omega
theorem sigP_succ (d:Nat) (g:zjh d):SigP (d+1):=fun t Y S' Z qe h n1 c1 n2 c2 j c3 w r s u hz=>by
 obtain⟨pn,pe,pp,cn,ce,cp,e,r1,r2,G⟩:=r;obtain⟨I,room,J⟩:=zg2 s;have c:=fn_parts u I;have L:Value.slice h j c3=.slice pp t.2.2.2.2.length cp:=by
  injection e with M
  have:=congrArg (fun(x:Array Value)=>x[4]?) M;simpa using this
 rw[L];have U:szL d t.2.2.2.2<=60000:=by rw[szD]at hz;unfold szL;omega
 have:=sig_walk d g pp cp t.2.2.2.2 w G (fun x V=>⟨_,rights_mem' J x V⟩) c U;rw[<-sig_toks d t c]at this;exact this
where
 rights_mem':∀{d:Nat} {room:Int} {ts:List (Ty d)},Ju d room ts=true->∀u∈ts,JP d room u=true
  | 0,_,_,_,u,_=>nomatch u
  | d+1,room,ts,h,u,hu=>by
   rw[Ju,Yn]at h;rw[JP,Ju,YL,List.all_nil,X4];exact h u hu
theorem rights_each:∀{d:Nat} {room:Int} {c:List (Ty d)},Ju d room c=true->∀u∈c,JP d room u=true
 | 0,_,_,_,u,_=>nomatch u
 | d+1,room,c,h,u,hu=>by
  rw[Ju,Yn]at h;rw[JP,Ju,YL,List.all_nil,X4];exact h u hu
theorem fns_each:∀{d:Nat} {c:List (Ty d)},fnsB d c=true->∀u∈c,kindD d u=7
 | 0,_,_,u,_=>nomatch u
 | d+1,c,h,u,hu=>by
  rw[fnsB,Yn]at h;have g:u.1=7:=by simpa using h u hu
  exact g
theorem typed_step (d:Nat) (IH:zjh d) (SG:SigP d):zjh (d+1):=fun t v w hv hr hz=>by
 obtain⟨pn,pe,pp,cn,ce,cp,rfl,r1,r2,r3⟩:=hv;obtain⟨c,room,ad⟩:=zg2 hr;have ae:=zfp hr;have hle:=tyS_le (d+1) t;have ai:=Yh (zbh _ t.2.2.2.2) (zc3 _ t.2.2.2.2);have aj:1+t.2.1.length+t.2.2.1.length+t.2.2.2.1.length+zgm t.2.2.1+szL d t.2.2.2.2<=60000:=by rw[szD]at hz;exact hz
 have J:=rights_each ad
 suffices h:zff t.1 ⟨t.2.1.toArray⟩ pn pe pp t.2.2.1.length t.2.2.2.1.length t.2.2.2.2.length cn ce cp w (tyS (d+1) t)from h.mono fun e w' ⟨⟨u,he,ho⟩,hb⟩=>⟨⟨u,he,ho,ae,by omega⟩,hb⟩
 have part:∀k (L:k<t.2.2.2.2.length) W,ZB w W->∀x,TyValD w d x t.2.2.2.2[k]->Leaves 34 #[x] W (tyS d t.2.2.2.2[k]):=fun k L W j x r=>by
  have h1:szD d t.2.2.2.2[k]<=szL d t.2.2.2.2:=zdk (Ys L);exact(IH _ _ W (TyValD.below j r) ⟨_,J _ (Ys L)⟩ (by omega)).mono fun e w' ⟨⟨u,he,ho,_⟩,hb⟩=>⟨⟨u,he,ho⟩,hb⟩
 have aa:=c;unfold zb6 at c;rcases zlb aa with h|h|h|h|h|h|h|h
 ·rw[tyS_1 h,h];exact typed_1 _ _ _ _ _ _ _ _ _ _ _
 ·rw[tyS_2 h,h];exact typed_2 _ _ _ _ _ _ _ _ _ _ _
 ·rw[tyS_3 h,h];exact typed_3 _ _ _ _ _ _ _ _ _ _ _
 ·rw[tyS_4 h,h];exact typed_4 _ _ _ _ _ _ _ _ _ _ _
 ·rw[h]at c;simp[JF]at c;have hl:t.2.2.2.2.length=1:=c.2.2;obtain⟨x,⟨g,o,M,S',U,V,G,Y,Z,n2,c2,I,c3,rfl,rfl,a0,a1,a2,a3,a4⟩,r⟩:=TyRow.at r3 0 (by omega);have ab:0<(tyS d (t.2.2.2.2[0]'(by omega))).length:=zfp ⟨_,J _ (Ys _)⟩;have af:=tyS_le d (t.2.2.2.2[0]'(by omega));have h1:szD d (t.2.2.2.2[0]'(by omega))<=szL d t.2.2.2.2:=zdk (Ys _);rw[tyS_5 h hl,h];simp only[Xt,Xs]at a0 a1 a2 a3 a4;generalize ag:tyS d (t.2.2.2.2[0]'(by omega))=LL at ab af ⊢;rw[hl];subst ag;exact typed_5 _ pn pe _ _ cn ce cp w g o _ M S' U V G Y Z n2 c2 I c3 ab (by omega) a0 a1 a2 a3 a4 fun W j=>part 0 (by omega) W j _ r
 ·rw[h]at c;simp[JF]at c;obtain⟨_,⟨hn,he⟩,_⟩:=c;have ah:=sum_part t.2.2.2.2 (tyS d) (fun u=>by have:=tyS_le d u;omega) t.2.2.1.length;rw[tyS_6 h,h];rw[show t.2.2.2.1.length=t.2.2.1.length by omega]at r2 ⊢;rw[show t.2.2.2.2.length=t.2.2.1.length by omega];refine typed_6 _ pn pe pp cn ce cp _ w t.2.2.1 t.2.2.2.1 _ rfl (by omega) (by omega) (by omega) r1 r2 fun k L=>?_
  have s:k<t.2.2.2.2.length:=by omega
  obtain⟨x,⟨g,o,M,S',U,V,G,Y,Z,n2,c2,I,c3,e,rfl,a0,a1,a2,a3,a4⟩,r⟩:=TyRow.at r3 k s;have eL:(t.2.2.2.2[k]?.map (tyS d)).getD []=tyS d t.2.2.2.2[k]:=by rw[Y6 s];rfl
  simp only[eL];exact⟨g,o,M,S',U,V,G,Y,Z,n2,c2,I,c3,e,a0,a1,a2,a3,a4,zfp ⟨_,J _ (Ys _)⟩,fun W j=>part k s W j _ r⟩
 ·have ac:=fn_parts h aa;have hg:=sig_walk d IH pp cp t.2.2.2.2;rw[tyS_7 h,h];refine typed_7 _ pn pe pp _ _ _ cn ce cp w _ (gS_pos t) (by have:=gS_le (d+1) t;omega) fun W j=>?_
  have:=hg W (TyRow.below j d r3) (fun x r=>⟨_,J x r⟩) ac (by omega);rw[<-sig_toks d t ac]at this;exact this
 ·rw[h]at c;simp[JF]at c;obtain⟨_,⟨⟨hn,_⟩,_⟩,hf⟩:=c;have ah:=sum_part t.2.2.2.2 (gS d) (fun u=>by have:=gS_le d u;omega) t.2.2.1.length;rw[tyS_8 h,h];rw[show t.2.2.2.2.length=t.2.2.1.length by omega];refine typed_8 _ pn pe pp _ cn ce cp _ w t.2.2.1 _ rfl (by omega) (by omega) r1 fun k L=>?_
  have s:k<t.2.2.2.2.length:=by omega
  obtain⟨x,⟨g,o,M,S',U,V,G,Y,Z,n2,c2,I,c3,e,rfl,a0,a1,a2,a3,a4⟩,r⟩:=TyRow.at r3 k s;have eL:(t.2.2.2.2[k]?.map (gS d)).getD []=gS d t.2.2.2.2[k]:=by rw[Y6 s];rfl
  simp only[eL];have h1:szD d t.2.2.2.2[k]<=szL d t.2.2.2.2:=zdk (Ys s);exact⟨g,o,G,I,c3,e,a4,gS_pos _,fun W j=>SG _ M S' U V G Y Z n2 c2 I c3 W (TyValD.below j r) ⟨_,J _ (Ys _)⟩ (fns_each hf _ (Ys _)) (by omega)⟩
theorem zgw:∀d,zjh d/\SigP d
 | 0=>⟨(fun t=>nomatch t),sigP_zero⟩
 | d+1=>⟨typed_step d (zgw d).1 (zgw d).2,sigP_succ d (zgw d).1⟩
theorem zmb (d:Nat):zjh d:=(zgw d).1
end Go.Proofs.YtdcbglnhhbmpgaaGreatDoor
