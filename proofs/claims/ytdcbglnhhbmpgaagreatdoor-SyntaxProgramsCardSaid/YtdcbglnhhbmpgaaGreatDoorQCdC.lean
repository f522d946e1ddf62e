import Derived.Test.YtdcbglnhhbmpgaaGreatDoorQCdB
import Derived.Deep.LoopGhost
set_option maxHeartbeats 4000000
set_option maxRecDepth 100000
namespace Go.Proofs.YtdcbglnhhbmpgaaGreatDoor
open Go Go.RowKit Lx
theorem zfs {W:Zw} {g:Nat} {x:C10} (h:W.heap[g]?=some (cBox x)):ZL10 W g (Zi x.A) (.string x.O) (.string x.N) (.slice x.pq x.nq x.cq) (Zi x.T.K) (.string x.T.S) (.slice x.T.pn x.T.nn x.T.cn) (.slice x.T.pe x.T.ne x.T.ce) (.slice x.T.pp x.T.np x.T.cp) (.slice x.pb x.nb x.cb):=
 ⟨by rw[Y0 h];rfl,by rw[Y0 h];rfl,by rw[Y0 h];rfl,by rw[Y0 h];rfl,by rw[Y0 h];rfl,by rw[Y0 h];rfl,by rw[Y0 h];rfl,by rw[Y0 h];rfl,by rw[Y0 h];rfl,by rw[Y0 h];rfl⟩
theorem WrAt.on {base b:Nat} {T:TypeId} {c:List Tok} {W W':Zw} (h:WrAt base b T c W) (g:ZB W W'):WrAt base b T c W':=by
 have j:=h.lt;obtain⟨r,s,v,t,u⟩:=h;exact⟨r,s,v,(g.block b j).trans t,zbq u g⟩
theorem okB {w0 w W W':Zw} {b:Nat} {T:TypeId} {I:Zw->Prop} {g:List Tok} (j:Stays w0 b I) (h:Ok w0 b T I w g W) (c:ZB W W'):Ok w0 b T I w g W':=by
 have hz:Below w0.heap.size W W':=c.mono h.2.2.1.size;exact⟨h.1.on c,h.2.1,h.2.2.1.trans hz,h.2.2.2.1.trans hz,h.2.2.2.2.1.trans (.of_below c),j _ _ h.2.2.2.2.2 hz (.of_below c)⟩
theorem code_method (w0:Zw) (b:Nat) (T:TypeId) (A K:Int) (o n:Bs) (S:Zy) (pq pn pe pp pb:Zo) (nq cq nn cn ne ce np cp nb cb:Nat) (Z tt tb:List Tok) (hm:zav o n=true)
  (hP:Puts w0 b T (fun _=>True) 76 #[.pointer (Zs b 0),.slice pq nq cq] Z)
  (hT:Puts w0 b T (fun _=>True) 50 #[.pointer (Zs b 0),(.agg #[Zi K,.string S,.slice pn nn cn,.slice pe ne ce,.slice pp np cp])] tt)
  (hB:Puts w0 b T (fun _=>True) 77 #[.pointer (Zs b 0),.slice pb nb cb] tb) :
  Puts w0 b T (fun _=>True) 47 #[.pointer (Zs b 0),(.agg #[Zi A,.string ⟨o.toArray⟩,.string ⟨n.toArray⟩,.slice pq nq cq,Zi K,.string S,.slice pn nn cn,.slice pe ne ce,.slice pp np cp,.slice pb nb cb])] ((tW [109,101,116,104,111,100]::tT o::tS [46]::tN n::Z)++(tt++tb)):=by
 intro Y w hw ad ae _;obtain⟨aa,hS⟩:=zh3 hw ad ae #[Zi A,.string ⟨o.toArray⟩,.string ⟨n.toArray⟩,.slice pq nq cq,Zi K,.string S,.slice pn nn cn,.slice pe ne ce,.slice pp np cp,.slice pb nb cb] 34 (by decide);have CM:=J3 (fun W=>zdf ⟨A,⟨o.toArray⟩,⟨n.toArray⟩,pq,nq,cq,⟨K,S,pn,pe,pp,nn,cn,ne,ce,np,cp⟩,pb,nb,cb⟩ o n W rfl rfl);rw[hm]at CM;have PW:=J3 (JH w0 b T [109,101,116,104,111,100]);have PO:=J3 (zdq w0 b T o);have PD:=J3 (JU w0 b T [46]);have PN:=J3 (zct w0 b T n);have PP:=J3 hP;have PT:=J3 hT;have PB:=J3 hB;obtain⟨g0,ab⟩:∃g:Nat,g=w.heap.size:=⟨_,rfl⟩
 rw[<-ab]at aa hS;have J:ZH (∀W:Zw,W.heap[g0]?=some (Obj.cells #[Zi A,.string ⟨o.toArray⟩,.string ⟨n.toArray⟩,.slice pq nq cq,Zi K,.string S,.slice pn nn cn,.slice pe ne ce,.slice pp np cp,.slice pb nb cb] 34)->ZL10 W g0 (Zi A) (.string ⟨o.toArray⟩) (.string ⟨n.toArray⟩) (.slice pq nq cq) (Zi K) (.string S) (.slice pn nn cn) (.slice pe ne ce) (.slice pp np cp) (.slice pb nb cb)):=fun W h=>zfs (x:=⟨A,⟨o.toArray⟩,⟨n.toArray⟩,pq,nq,cq,⟨K,S,pn,pe,pp,nn,cn,ne,ce,np,cp⟩,pb,nb,cb⟩) h
 have HG:=J3 ab;have L:=J3 hS;have af:=J3 aa;clear aa hS hw ae ad hm hP hT hB ab;go_enter Tryz.func47,Tryz.ntmps47;go_upto_region 2 with fail
 obtain⟨W0,ac⟩:∃W:Zw,W=w.alloc (Obj.cells #[Zi A,.string ⟨o.toArray⟩,.string ⟨n.toArray⟩,.slice pq nq cq,Zi K,.string S,.slice pn nn cn,.slice pe ne ce,.slice pp np cp,.slice pb nb cb] 34):=⟨_,rfl⟩
 rw[<-ac,<-J0 HG];have c:ZH (Ok w0 b T (fun V=>V.heap[g0]?=some (Obj.cells #[Zi A,.string ⟨o.toArray⟩,.string ⟨n.toArray⟩,.slice pq nq cq,Zi K,.string S,.slice pn nn cn,.slice pe ne ce,.slice pp np cp,.slice pb nb cb] 34)) w Y W0):=by rw[ac];exact af
 clear ac af HG;obtain⟨j,r,s,c3,c4,c5,t,u,G,I⟩:=J _ c.2.2.2.2.2;go_upto_region 4 with(first|(go_at_call 62;refine(CM _).mono ?_;clear CM;rintro x U ⟨rfl,hb⟩;replace c:=J3 (okB L c hb);clear hb;clear j r s c3 c4 c5 t u G I;obtain⟨j,r,s,c3,c4,c5,t,u,G,I⟩:=J _ c.2.2.2.2.2)|(go_at_call 65;refine(PW.ok (fun _ _=>trivial) L c).mono ?_;clear PW;rintro x U ⟨rfl,ok⟩;clear c;have c:=J3 ok;clear ok;clear j r s c3 c4 c5 t u G I;obtain⟨j,r,s,c3,c4,c5,t,u,G,I⟩:=J _ c.2.2.2.2.2))
 go_cut [29] (fun _ wx=>∃M:Zw,M=wx/\ZH (Ok w0 b T (fun V=>V.heap[g0]?=some (Obj.cells #[Zi A,.string ⟨o.toArray⟩,.string ⟨n.toArray⟩,.slice pq nq cq,Zi K,.string S,.slice pn nn cn,.slice pe ne ce,.slice pp np cp,.slice pb nb cb] 34)) w (Jc (Jc Y [tW [109,101,116,104,111,100]]) [tT o]) M))
 case first=>
  go_region_with (go_at_call 66;refine(PO.ok (fun _ _=>trivial) L (c.drew L)).mono ?_;clear PO;rintro x U ⟨rfl,ok⟩;clear c;have c:=J3 ok;clear ok;clear j r s c3 c4 c5 t u G I;obtain⟨j,r,s,c3,c4,c5,t,u,G,I⟩:=J _ c.2.2.2.2.2)
  all_goals
   go_wp2_with fail;go_meet
   case rel=>exact⟨_,rfl,c⟩
 case rest=>
 clear c;clear j r s c3 c4 c5 t u G I;obtain⟨M,rfl,c⟩:=hcut;obtain⟨j,r,s,c3,c4,c5,t,u,G,I⟩:=J _ c.2.2.2.2.2;go_upto_region 6 with(go_at_call 67;refine(PD.ok (fun _ _=>trivial) L c).mono ?_;clear PD;rintro x U ⟨rfl,ok⟩;clear c;have c:=J3 ok;clear ok;clear j r s c3 c4 c5 t u G I;obtain⟨j,r,s,c3,c4,c5,t,u,G,I⟩:=J _ c.2.2.2.2.2)
 go_cut [45] (fun _ wx=>∃M:Zw,M=wx/\ZH (Ok w0 b T (fun V=>V.heap[g0]?=some (Obj.cells #[Zi A,.string ⟨o.toArray⟩,.string ⟨n.toArray⟩,.slice pq nq cq,Zi K,.string S,.slice pn nn cn,.slice pe ne ce,.slice pp np cp,.slice pb nb cb] 34)) w (Jc (Jc (Jc (Jc Y [tW [109,101,116,104,111,100]]) [tT o]) [tS [46]]) [tN n]) M))
 case first=>
  go_region_with (go_at_call 75;refine(PN.ok (fun _ _=>trivial) L (c.drew L)).mono ?_;clear PN;rintro x U ⟨rfl,ok⟩;clear c;have c:=J3 ok;clear ok;clear j r s c3 c4 c5 t u G I;obtain⟨j,r,s,c3,c4,c5,t,u,G,I⟩:=J _ c.2.2.2.2.2)
  all_goals
   go_wp2_with fail;go_meet
   case rel=>exact⟨_,rfl,c⟩
 case rest=>
 clear c;clear j r s c3 c4 c5 t u G I;obtain⟨M,rfl,c⟩:=hcut;obtain⟨j,r,s,c3,c4,c5,t,u,G,I⟩:=J _ c.2.2.2.2.2;go_upto_region 12 with(go_at_call 76;refine(PP.ok (fun _ _=>trivial) L c).mono ?_;clear PP;rintro x U ⟨rfl,ok⟩;clear c;have c:=J3 ok;clear ok;clear j r s c3 c4 c5 t u G I;obtain⟨j,r,s,c3,c4,c5,t,u,G,I⟩:=J _ c.2.2.2.2.2)
 go_cut [80] (fun _ wx=>∃M:Zw,M=wx/\ZH (Ok w0 b T (fun V=>V.heap[g0]?=some (Obj.cells #[Zi A,.string ⟨o.toArray⟩,.string ⟨n.toArray⟩,.slice pq nq cq,Zi K,.string S,.slice pn nn cn,.slice pe ne ce,.slice pp np cp,.slice pb nb cb] 34)) w (Jc (Jc (Jc (Jc (Jc (Jc Y [tW [109,101,116,104,111,100]]) [tT o]) [tS [46]]) [tN n]) Z) tt) M))
 case first=>
  go_region_with (go_at_call 50;refine(PT.ok (fun _ _=>trivial) L (c.drew L)).mono ?_;clear PT;rintro x U ⟨rfl,ok⟩;clear c;have c:=J3 ok;clear ok;clear j r s c3 c4 c5 t u G I;obtain⟨j,r,s,c3,c4,c5,t,u,G,I⟩:=J _ c.2.2.2.2.2)
  all_goals
   go_wp2_with fail;go_meet
   case rel=>exact⟨_,rfl,c⟩
 case rest=>
 clear c;clear j r s c3 c4 c5 t u G I;obtain⟨M,rfl,c⟩:=hcut;obtain⟨j,r,s,c3,c4,c5,t,u,G,I⟩:=J _ c.2.2.2.2.2;go_wp2_with fail
 go_region_with (go_at_call 77;refine(PB.ok (fun _ _=>trivial) L (c.drew L)).mono ?_;clear PB;rintro x U ⟨rfl,ok⟩;clear c;have c:=J3 ok;clear ok;clear j r s c3 c4 c5 t u G I;obtain⟨j,r,s,c3,c4,c5,t,u,G,I⟩:=J _ c.2.2.2.2.2)
 all_goals
  go_wp2_with fail;exact Yd (v:=.tuple #[]) (by simp[results,Tryz.results47,go_sem]) rfl (c.fin (by simp only[J8,Jq,JE]))
theorem code_func (w0:Zw) (b:Nat) (T:TypeId) (A K:Int) (o n:Bs) (S:Zy) (pq pn pe pp pb:Zo) (nq cq nn cn ne ce np cp nb cb:Nat) (Z tt tb:List Tok) (hm:zav o n=false) (hf:zdc o n=true)
  (hP:Puts w0 b T (fun _=>True) 76 #[.pointer (Zs b 0),.slice pq nq cq] Z)
  (hT:Puts w0 b T (fun _=>True) 50 #[.pointer (Zs b 0),(.agg #[Zi K,.string S,.slice pn nn cn,.slice pe ne ce,.slice pp np cp])] tt)
  (hB:Puts w0 b T (fun _=>True) 77 #[.pointer (Zs b 0),.slice pb nb cb] tb) :
  Puts w0 b T (fun _=>True) 47 #[.pointer (Zs b 0),(.agg #[Zi A,.string ⟨o.toArray⟩,.string ⟨n.toArray⟩,.slice pq nq cq,Zi K,.string S,.slice pn nn cn,.slice pe ne ce,.slice pp np cp,.slice pb nb cb])] ((tW [102,117,110,99]::tN n::Z)++(tt++tb)):=by
 intro ts w hw ad ae _;obtain⟨aa,hS⟩:=zh3 hw ad ae #[Zi A,.string ⟨o.toArray⟩,.string ⟨n.toArray⟩,.slice pq nq cq,Zi K,.string S,.slice pn nn cn,.slice pe ne ce,.slice pp np cp,.slice pb nb cb] 34 (by decide);have CM:=J3 (fun W=>zdf ⟨A,⟨o.toArray⟩,⟨n.toArray⟩,pq,nq,cq,⟨K,S,pn,pe,pp,nn,cn,ne,ce,np,cp⟩,pb,nb,cb⟩ o n W rfl rfl);rw[hm]at CM;have CF:=J3 (fun W=>zgk ⟨A,⟨o.toArray⟩,⟨n.toArray⟩,pq,nq,cq,⟨K,S,pn,pe,pp,nn,cn,ne,ce,np,cp⟩,pb,nb,cb⟩ o n W rfl rfl);rw[hf]at CF;have PW:=J3 (JH w0 b T [102,117,110,99]);have PN:=J3 (zct w0 b T n);have PP:=J3 hP;have PT:=J3 hT;have PB:=J3 hB;obtain⟨g0,ab⟩:∃g:Nat,g=w.heap.size:=⟨_,rfl⟩
 rw[<-ab]at aa hS;have J:ZH (∀W:Zw,W.heap[g0]?=some (Obj.cells #[Zi A,.string ⟨o.toArray⟩,.string ⟨n.toArray⟩,.slice pq nq cq,Zi K,.string S,.slice pn nn cn,.slice pe ne ce,.slice pp np cp,.slice pb nb cb] 34)->ZL10 W g0 (Zi A) (.string ⟨o.toArray⟩) (.string ⟨n.toArray⟩) (.slice pq nq cq) (Zi K) (.string S) (.slice pn nn cn) (.slice pe ne ce) (.slice pp np cp) (.slice pb nb cb)):=fun W h=>zfs (x:=⟨A,⟨o.toArray⟩,⟨n.toArray⟩,pq,nq,cq,⟨K,S,pn,pe,pp,nn,cn,ne,ce,np,cp⟩,pb,nb,cb⟩) h
 have HG:=J3 ab;have L:=J3 hS;have af:=J3 aa;clear aa hS hw ae ad hm hP hf hT hB ab;go_enter Tryz.func47,Tryz.ntmps47;go_upto_region 2 with fail
 obtain⟨W0,ac⟩:∃W:Zw,W=w.alloc (Obj.cells #[Zi A,.string ⟨o.toArray⟩,.string ⟨n.toArray⟩,.slice pq nq cq,Zi K,.string S,.slice pn nn cn,.slice pe ne ce,.slice pp np cp,.slice pb nb cb] 34):=⟨_,rfl⟩
 rw[<-ac,<-J0 HG];have c:ZH (Ok w0 b T (fun V=>V.heap[g0]?=some (Obj.cells #[Zi A,.string ⟨o.toArray⟩,.string ⟨n.toArray⟩,.slice pq nq cq,Zi K,.string S,.slice pn nn cn,.slice pe ne ce,.slice pp np cp,.slice pb nb cb] 34)) w ts W0):=by rw[ac];exact af
 clear ac af HG;obtain⟨j,r,s,c3,c4,c5,t,u,G,I⟩:=J _ c.2.2.2.2.2;go_upto_region 10 with(first|(go_at_call 62;refine(CM _).mono ?_;clear CM;rintro x U ⟨rfl,Y⟩;replace c:=J3 (okB L c Y);clear Y;clear j r s c3 c4 c5 t u G I;obtain⟨j,r,s,c3,c4,c5,t,u,G,I⟩:=J _ c.2.2.2.2.2)|(go_at_call 63;refine(CF _).mono ?_;clear CF;rintro x U ⟨rfl,Y⟩;replace c:=J3 (okB L c Y);clear Y;clear j r s c3 c4 c5 t u G I;obtain⟨j,r,s,c3,c4,c5,t,u,G,I⟩:=J _ c.2.2.2.2.2)|(go_at_call 65;refine(PW.ok (fun _ _=>trivial) L c).mono ?_;clear PW;rintro x U ⟨rfl,ok⟩;clear c;have c:=J3 ok;clear ok;clear j r s c3 c4 c5 t u G I;obtain⟨j,r,s,c3,c4,c5,t,u,G,I⟩:=J _ c.2.2.2.2.2))
 go_cut [68] (fun _ wx=>∃M:Zw,M=wx/\ZH (Ok w0 b T (fun V=>V.heap[g0]?=some (Obj.cells #[Zi A,.string ⟨o.toArray⟩,.string ⟨n.toArray⟩,.slice pq nq cq,Zi K,.string S,.slice pn nn cn,.slice pe ne ce,.slice pp np cp,.slice pb nb cb] 34)) w (Jc (Jc ts [tW [102,117,110,99]]) [tN n]) M))
 case first=>
  go_region_with (go_at_call 75;refine(PN.ok (fun _ _=>trivial) L (c.drew L)).mono ?_;clear PN;rintro x U ⟨rfl,ok⟩;clear c;have c:=J3 ok;clear ok;clear j r s c3 c4 c5 t u G I;obtain⟨j,r,s,c3,c4,c5,t,u,G,I⟩:=J _ c.2.2.2.2.2)
  all_goals
   go_wp2_with fail;go_meet
   case rel=>exact⟨_,rfl,c⟩
 case rest=>
 clear c;clear j r s c3 c4 c5 t u G I;obtain⟨M,rfl,c⟩:=hcut;obtain⟨j,r,s,c3,c4,c5,t,u,G,I⟩:=J _ c.2.2.2.2.2;go_upto_region 12 with(go_at_call 76;refine(PP.ok (fun _ _=>trivial) L c).mono ?_;clear PP;rintro x U ⟨rfl,ok⟩;clear c;have c:=J3 ok;clear ok;clear j r s c3 c4 c5 t u G I;obtain⟨j,r,s,c3,c4,c5,t,u,G,I⟩:=J _ c.2.2.2.2.2)
 go_cut [80] (fun _ wx=>∃M:Zw,M=wx/\ZH (Ok w0 b T (fun V=>V.heap[g0]?=some (Obj.cells #[Zi A,.string ⟨o.toArray⟩,.string ⟨n.toArray⟩,.slice pq nq cq,Zi K,.string S,.slice pn nn cn,.slice pe ne ce,.slice pp np cp,.slice pb nb cb] 34)) w (Jc (Jc (Jc (Jc ts [tW [102,117,110,99]]) [tN n]) Z) tt) M))
 case first=>
  go_region_with (go_at_call 50;refine(PT.ok (fun _ _=>trivial) L (c.drew L)).mono ?_;clear PT;rintro x U ⟨rfl,ok⟩;clear c;have c:=J3 ok;clear ok;clear j r s c3 c4 c5 t u G I;obtain⟨j,r,s,c3,c4,c5,t,u,G,I⟩:=J _ c.2.2.2.2.2)
  all_goals
   go_wp2_with fail;go_meet
   case rel=>exact⟨_,rfl,c⟩
 case rest=>
 clear c;clear j r s c3 c4 c5 t u G I;obtain⟨M,rfl,c⟩:=hcut;obtain⟨j,r,s,c3,c4,c5,t,u,G,I⟩:=J _ c.2.2.2.2.2;go_wp2_with fail
 go_region_with (go_at_call 77;refine(PB.ok (fun _ _=>trivial) L (c.drew L)).mono ?_;clear PB;rintro x U ⟨rfl,ok⟩;clear c;have c:=J3 ok;clear ok;clear j r s c3 c4 c5 t u G I;obtain⟨j,r,s,c3,c4,c5,t,u,G,I⟩:=J _ c.2.2.2.2.2)
 all_goals
  go_wp2_with fail;exact Yd (v:=.tuple #[]) (by simp[results,Tryz.results47,go_sem]) rfl (c.fin (by simp only[J8,Jq,JE]))
theorem code_main (w0:Zw) (b:Nat) (T:TypeId) (A K:Int) (o n:Bs) (S:Zy) (pq pn pe pp pb:Zo) (nq cq nn cn ne ce np cp nb cb:Nat) (Y tb:List Tok) (hm:zav o n=false) (hf:zdc o n=false)
  (hT:Puts w0 b T (fun _=>True) 50 #[.pointer (Zs b 0),(.agg #[Zi K,.string S,.slice pn nn cn,.slice pe ne ce,.slice pp np cp])] Y)
  (hB:Puts w0 b T (fun _=>True) 77 #[.pointer (Zs b 0),.slice pb nb cb] tb) :
  Puts w0 b T (fun _=>True) 47 #[.pointer (Zs b 0),(.agg #[Zi A,.string ⟨o.toArray⟩,.string ⟨n.toArray⟩,.slice pq nq cq,Zi K,.string S,.slice pn nn cn,.slice pe ne ce,.slice pp np cp,.slice pb nb cb])] ([tW [109,97,105,110]]++(Y++tb)):=by
 intro ts w hw ac ad _;obtain⟨Z,hS⟩:=zh3 hw ac ad #[Zi A,.string ⟨o.toArray⟩,.string ⟨n.toArray⟩,.slice pq nq cq,Zi K,.string S,.slice pn nn cn,.slice pe ne ce,.slice pp np cp,.slice pb nb cb] 34 (by decide);have CM:=J3 (fun W=>zdf ⟨A,⟨o.toArray⟩,⟨n.toArray⟩,pq,nq,cq,⟨K,S,pn,pe,pp,nn,cn,ne,ce,np,cp⟩,pb,nb,cb⟩ o n W rfl rfl);rw[hm]at CM;have CF:=J3 (fun W=>zgk ⟨A,⟨o.toArray⟩,⟨n.toArray⟩,pq,nq,cq,⟨K,S,pn,pe,pp,nn,cn,ne,ce,np,cp⟩,pb,nb,cb⟩ o n W rfl rfl);rw[hf]at CF;have PW:=J3 (JH w0 b T [109,97,105,110]);have PT:=J3 hT;have PB:=J3 hB;obtain⟨g0,aa⟩:∃g:Nat,g=w.heap.size:=⟨_,rfl⟩
 rw[<-aa]at Z hS;have J:ZH (∀W:Zw,W.heap[g0]?=some (Obj.cells #[Zi A,.string ⟨o.toArray⟩,.string ⟨n.toArray⟩,.slice pq nq cq,Zi K,.string S,.slice pn nn cn,.slice pe ne ce,.slice pp np cp,.slice pb nb cb] 34)->ZL10 W g0 (Zi A) (.string ⟨o.toArray⟩) (.string ⟨n.toArray⟩) (.slice pq nq cq) (Zi K) (.string S) (.slice pn nn cn) (.slice pe ne ce) (.slice pp np cp) (.slice pb nb cb)):=fun W h=>zfs (x:=⟨A,⟨o.toArray⟩,⟨n.toArray⟩,pq,nq,cq,⟨K,S,pn,pe,pp,nn,cn,ne,ce,np,cp⟩,pb,nb,cb⟩) h
 have HG:=J3 aa;have L:=J3 hS;have ae:=J3 Z;clear Z hS hw ad ac hm hf hT hB aa;go_enter Tryz.func47,Tryz.ntmps47;go_upto_region 2 with fail
 obtain⟨W0,ab⟩:∃W:Zw,W=w.alloc (Obj.cells #[Zi A,.string ⟨o.toArray⟩,.string ⟨n.toArray⟩,.slice pq nq cq,Zi K,.string S,.slice pn nn cn,.slice pe ne ce,.slice pp np cp,.slice pb nb cb] 34):=⟨_,rfl⟩
 rw[<-ab,<-J0 HG];have c:ZH (Ok w0 b T (fun V=>V.heap[g0]?=some (Obj.cells #[Zi A,.string ⟨o.toArray⟩,.string ⟨n.toArray⟩,.slice pq nq cq,Zi K,.string S,.slice pn nn cn,.slice pe ne ce,.slice pp np cp,.slice pb nb cb] 34)) w ts W0):=by rw[ab];exact ae
 clear ab ae HG;obtain⟨j,r,s,c3,c4,c5,t,u,G,I⟩:=J _ c.2.2.2.2.2;go_upto_region 12 with(first|(go_at_call 62;refine(CM _).mono ?_;clear CM;rintro x U ⟨rfl,M⟩;replace c:=J3 (okB L c M);clear M;clear j r s c3 c4 c5 t u G I;obtain⟨j,r,s,c3,c4,c5,t,u,G,I⟩:=J _ c.2.2.2.2.2)|(go_at_call 63;refine(CF _).mono ?_;clear CF;rintro x U ⟨rfl,M⟩;replace c:=J3 (okB L c M);clear M;clear j r s c3 c4 c5 t u G I;obtain⟨j,r,s,c3,c4,c5,t,u,G,I⟩:=J _ c.2.2.2.2.2)|(go_at_call 65;refine(PW.ok (fun _ _=>trivial) L c).mono ?_;clear PW;rintro x U ⟨rfl,ok⟩;clear c;have c:=J3 ok;clear ok;clear j r s c3 c4 c5 t u G I;obtain⟨j,r,s,c3,c4,c5,t,u,G,I⟩:=J _ c.2.2.2.2.2))
 go_cut [80] (fun _ wx=>∃Wy:Zw,Wy=wx/\ZH (Ok w0 b T (fun V=>V.heap[g0]?=some (Obj.cells #[Zi A,.string ⟨o.toArray⟩,.string ⟨n.toArray⟩,.slice pq nq cq,Zi K,.string S,.slice pn nn cn,.slice pe ne ce,.slice pp np cp,.slice pb nb cb] 34)) w (Jc (Jc ts [tW [109,97,105,110]]) Y) Wy))
 case first=>
  go_region_with (go_at_call 50;refine(PT.ok (fun _ _=>trivial) L (c.drew L)).mono ?_;clear PT;rintro x U ⟨rfl,ok⟩;clear c;have c:=J3 ok;clear ok;clear j r s c3 c4 c5 t u G I;obtain⟨j,r,s,c3,c4,c5,t,u,G,I⟩:=J _ c.2.2.2.2.2)
  all_goals
   go_wp2_with fail;go_meet
   case rel=>exact⟨_,rfl,c⟩
 case rest=>
 clear c;clear j r s c3 c4 c5 t u G I;obtain⟨Wy,rfl,c⟩:=hcut;obtain⟨j,r,s,c3,c4,c5,t,u,G,I⟩:=J _ c.2.2.2.2.2;go_wp2_with fail
 go_region_with (go_at_call 77;refine(PB.ok (fun _ _=>trivial) L (c.drew L)).mono ?_;clear PB;rintro x U ⟨rfl,ok⟩;clear c;have c:=J3 ok;clear ok;clear j r s c3 c4 c5 t u G I;obtain⟨j,r,s,c3,c4,c5,t,u,G,I⟩:=J _ c.2.2.2.2.2)
 all_goals
  go_wp2_with fail;exact Yd (v:=.tuple #[]) (by simp[results,Tryz.results47,go_sem]) rfl (c.fin (by simp only[J8,Jq,JE]))
theorem argsT_congr {q:Nat} {f g:Nat->List Tok} (h:∀k,k<q->f k=g k):zd3 q f=zd3 q g:=by
 have e:(List.range q).map (zar f)=(List.range q).map (zar g):=List.map_congr_left fun k c=>by rw[zar,zar,h k (Yy.1 c)]
 rw[zd3,zd3,List.flatMap_def,List.flatMap_def,e]
theorem typutsD {w0:Zw} {b:Nat} {T:TypeId}:∀{E:Nat} {v:Value} {t:Ty E},TyValD w0 E v t->za5 E [t]->JP E 64 t=true->Puts w0 b T (fun _=>True) 50 #[.pointer (Zs b 0),v] (Jf E false t)
 | 0,_,_,h,_,_=>h.elim
 | E+1,v,t,h,c,g=>zit w0 E b T v t h (c.2 t (by simp)).1 (c.2 t (by simp)).2 ⟨64,by rw[<-zcz];exact g⟩
theorem zko {w0:Zw} {b:Nat} {T:TypeId} {E:Nat} {p:Zo} {n c:Nat} {j:List (Pa E)} (s:PaRow w0 E (.slice p n c) j) (I:j.length<=1000000) (J:∀x∈j,x.1.length<=35184372088832/\za5 E [x.2]) (t:zgb E j=true) :
  Puts w0 b T (fun _=>True) 76 #[.pointer (Zs b 0),.slice p n c] (psT E j):=by
 have hn:=s.len;obtain⟨_,_,e,hp⟩:=s;injection e with L M e3
 subst L M;rw[zgb,Yc,Yn]at t;have h:=params_any w0 b T p j.length c I (fun k=>(j[k]?.map (·.1)).getD []) (fun k=>(j[k]?.map fun x=>Jf E false x.2).getD []) fun k r=>by
  have u:j[k]?=some j[k]:=Y6 r;obtain⟨g,o,y,rfl,a0,U,a2⟩:=hp k j[k] u;simp only[u,X5,YY];refine⟨g,o,y.K,y.S,y.pn,y.pe,y.pp,y.nn,y.ne,y.np,y.cn,y.ce,y.cp,rfl,fun W G=>?_,typutsD a2 (J j[k] (by simp)).2 (t.1 j[k] (by simp))⟩;obtain⟨b0,V,Y,Z,b4⟩:=U.below G;exact⟨(G.cell (p:=⟨g,_,none⟩) (J2 a0)).trans a0,b0,V,Y,Z,b4⟩
 have e:psT E j=zd3 j.length (fun k=>tN ((j[k]?.map (·.1)).getD [])::((j[k]?.map fun x=>Jf E false x.2).getD [])):=argsT_congr fun k r=>by
  rw[Y6 r];rfl
 rw[e];exact h
theorem zfd {w0:Zw} {b:Nat} {T:TypeId} {E D d m:Nat} {x:C10} {c:Co E D d m} (I:CoIs w0 E D d m x c) (J:zjb E D d m c) (r:JD E D d m c=true) :
  Puts w0 b T (fun _=>True) 47 #[.pointer (Zs b 0),x.val] (coT E D d m c):=by
 obtain⟨A,O,N,pq,nq,cq,⟨K,S,pn,pe,pp,nn,cn,ne,ce,np,cp⟩,pb,nb,cb⟩:=x;obtain⟨Y,s,t,u,G,g⟩:=I;obtain⟨f1,f2,f3,f4,f5,f6⟩:=J;dsimp only at s t u G g;subst s t;rw[JD,Yc,Yc,Yc]at r;obtain⟨⟨⟨_,L⟩,M⟩,U⟩:=r;have PP:=zko (b:=b) (T:=T) u f3 f4 L;have h:=typutsD (b:=b) (T:=T) G f5 M;have j:Puts w0 b T (fun _=>True) 77 #[.pointer (Zs b 0),.slice pb nb cb] (tS [123]::(zes D d m (zaf c)++[tS [125]])):=by
  have V:nb=(zaf c).length:=by
   obtain⟨Z,c',e⟩:=g.slice;injection e
  subst V;exact zg6 w0 b T _ _ _ _ (zhe w0 D d m b T pb cb (zaf c) g f6 ⟨64,U⟩)
 rw[coT]
 cases hm:zav (zcw c) (JV c)
 ·rw[Y7 (by simp)]
  cases hfn:zdc (zcw c) (JV c)
  ·rw[Y7 (by simp)];exact code_main w0 b T A K (zcw c) (JV c) S pq pn pe pp pb nq cq nn cn ne ce np cp nb cb _ _ hm hfn h j
  ·rw[Ye rfl];exact code_func w0 b T A K (zcw c) (JV c) S pq pn pe pp pb nq cq nn cn ne ce np cp nb cb _ _ _ hm hfn PP h j
 ·rw[Ye rfl];exact code_method w0 b T A K (zcw c) (JV c) S pq pn pe pp pb nq cq nn cn ne ce np cp nb cb _ _ _ hm PP h j
theorem prbox_heap {W:Zw} {g:Nat} {x:P13} (h:W.heap[g]?=some (prBox x)):ZL13 W g (.slice x.pd x.nd x.cd) (.slice x.pm x.nm x.cm) (.slice x.pf x.nf x.cf) (Zi x.M.A) (.string x.M.O) (.string x.M.N) (.slice x.M.pq x.M.nq x.M.cq) (Zi x.M.T.K) (.string x.M.T.S) (.slice x.M.T.pn x.M.T.nn x.M.T.cn) (.slice x.M.T.pe x.M.T.ne x.M.T.ce) (.slice x.M.T.pp x.M.T.np x.M.T.cp) (.slice x.M.pb x.M.nb x.M.cb):=
 ⟨by rw[Y0 h];rfl,by rw[Y0 h];rfl,by rw[Y0 h];rfl,by rw[Y0 h];rfl,by rw[Y0 h];rfl,by rw[Y0 h];rfl,by rw[Y0 h];rfl,by rw[Y0 h];rfl,by rw[Y0 h];rfl,by rw[Y0 h];rfl,by rw[Y0 h];rfl,by rw[Y0 h];rfl,by rw[Y0 h];rfl⟩
theorem dbox_heap {W:Zw} {g:Nat} {A:Int} {N:Zy} {x:T5} (h:W.heap[g]?=some (dBox A N x)):ZL7 W g (Zi A) (.string N) (Zi x.K) (.string x.S) (.slice x.pn x.nn x.cn) (.slice x.pe x.ne x.ce) (.slice x.pp x.np x.cp):=
 ⟨by rw[Y0 h];rfl,by rw[Y0 h];rfl,by rw[Y0 h];rfl,by rw[Y0 h];rfl,by rw[Y0 h];rfl,by rw[Y0 h];rfl,by rw[Y0 h];rfl⟩
def DePart (w0:Zw) (b:Nat) (T:TypeId) (pd:Zo) (k:Nat) (tk:List Tok):Prop:=
 ∃(g o:Nat) (U c:Int) (s:Bs) (h:Zy) (j r u:Zo) (x G I J L M:Nat) (t:List Tok),pd=some ⟨g,o,none⟩/\(∀W,ZB w0 W->ZK7 W g (o+k*7) (Zi U) (.string ⟨s.toArray⟩) (Zi c) (.string h) (.slice j x J) (.slice r G L) (.slice u I M)) /\
  Puts w0 b T (fun _=>True) 50 #[.pointer (Zs b 0),.agg #[Zi c,.string h,.slice j x J,.slice r G L,.slice u I M]] t/\tk=tW [116,121,112,101]::tT s::tS [61]::(t++[tS [59]])
def CoPart (w0:Zw) (b:Nat) (T:TypeId) (pm:Zo) (k:Nat) (tk:List Tok):Prop:=
 ∃(g o:Nat) (c h:Int) (j r s:Zy) (t u x G I:Zo) (J L M U V Y Z aa nb1 ab:Nat),pm=some ⟨g,o,none⟩/\(∀W,ZB w0 W->ZK10 W g (o+k*10) (Zi c) (.string j) (.string r) (.slice t J L) (Zi h) (.string s) (.slice u M U) (.slice x V Y) (.slice G Z aa) (.slice I nb1 ab)) /\
  Puts w0 b T (fun _=>True) 47 #[.pointer (Zs b 0),(.agg #[Zi c,.string j,.string r,.slice t J L,Zi h,.string s,.slice u M U,.slice x V Y,.slice G Z aa,.slice I nb1 ab])] tk
theorem put_next (c:List Tok) (f:Nat->List Tok) (k:Nat):Jc c ((List.range (k+1)).flatMap f)=Jc (Jc c ((List.range k).flatMap f)) (f k):=by
 rw[YA,YO,J8];simp
theorem prog_run (w0:Zw) (b:Nat) (T:TypeId) (A K:Int) (O N S:Zy) (pd pm pf pq pn pe pp pb:Zo) (nd cd nm cm nf cf nq cq nn cn ne ce np cp nb cb:Nat) (dt mt ft:Nat->List Tok) (tm:List Tok) (h1:nd<=1000000) (h2:nm<=1000000) (h3:nf<=1000000)
  (hD:∀k,k<nd->DePart w0 b T pd k (dt k)) (hM:∀k,k<nm->CoPart w0 b T pm k (mt k)) (hF:∀k,k<nf->CoPart w0 b T pf k (ft k))
  (hN:Puts w0 b T (fun _=>True) 47 #[.pointer (Zs b 0),(.agg #[Zi A,.string O,.string N,.slice pq nq cq,Zi K,.string S,.slice pn nn cn,.slice pe ne ce,.slice pp np cp,.slice pb nb cb])] tm) :
  Puts w0 b T (fun _=>True) 36 #[.pointer (Zs b 0),(.agg #[.slice pd nd cd,.slice pm nm cm,.slice pf nf cf,Zi A,.string O,.string N,.slice pq nq cq,Zi K,.string S,.slice pn nn cn,.slice pe ne ce,.slice pp np cp,.slice pb nb cb])] ((List.range nd).flatMap dt++((List.range nm).flatMap mt++((List.range nf).flatMap ft++tm))):=by
 intro ts w hw aI aJ _;obtain⟨aD,hS⟩:=zh3 hw aI aJ #[.slice pd nd cd,.slice pm nm cm,.slice pf nf cf,Zi A,.string O,.string N,.slice pq nq cq,Zi K,.string S,.slice pn nn cn,.slice pe ne ce,.slice pp np cp,.slice pb nb cb] 36 (by decide);have HD:=J3 hD;have HM:=J3 hM;have HF:=J3 hF;have PN:=J3 hN;obtain⟨g0,aE⟩:∃g:Nat,g=w.heap.size:=⟨_,rfl⟩
 rw[<-aE]at aD hS;have CP:ZH (∀W:Zw,W.heap[g0]?=some (Obj.cells #[.slice pd nd cd,.slice pm nm cm,.slice pf nf cf,Zi A,.string O,.string N,.slice pq nq cq,Zi K,.string S,.slice pn nn cn,.slice pe ne ce,.slice pp np cp,.slice pb nb cb] 36)->ZL13 W g0 (.slice pd nd cd) (.slice pm nm cm) (.slice pf nf cf) (Zi A) (.string O) (.string N) (.slice pq nq cq) (Zi K) (.string S) (.slice pn nn cn) (.slice pe ne ce) (.slice pp np cp) (.slice pb nb cb)):=fun W h=>prbox_heap (x:=⟨pd,nd,cd,pm,nm,cm,pf,nf,cf,⟨A,O,N,pq,nq,cq,⟨K,S,pn,pe,pp,nn,cn,ne,ce,np,cp⟩,pb,nb,cb⟩⟩) h
 have HG:=J3 aE;have HS:=J3 hS;have aK:=J3 aD;clear aD hS hw aJ aI hD hM hF hN aE;go_enter Tryz.func36,Tryz.ntmps36;go_upto_region 1 with fail
 obtain⟨W0,aF⟩:∃W:Zw,W=w.alloc (Obj.cells #[.slice pd nd cd,.slice pm nm cm,.slice pf nf cf,Zi A,.string O,.string N,.slice pq nq cq,Zi K,.string S,.slice pn nn cn,.slice pe ne ce,.slice pp np cp,.slice pb nb cb] 36):=⟨_,rfl⟩
 rw[<-aF,<-J0 HG];have M:ZH (Ok w0 b T (fun V=>V.heap[g0]?=some (Obj.cells #[.slice pd nd cd,.slice pm nm cm,.slice pf nf cf,Zi A,.string O,.string N,.slice pq nq cq,Zi K,.string S,.slice pn nn cn,.slice pe ne ce,.slice pp np cp,.slice pb nb cb] 36)) w ts W0):=by rw[aF];exact aK
 clear aF aK HG;obtain⟨q0,q1,q2,q3,q4,q5,q6,q7,q8,q9,au,av,aw⟩:=CP _ M.2.2.2.2.2;go_upto_block 0 with fail
 go_cut [13] (fun _ wx=>∃Wx:Zw,Wx=wx/\ZH (Ok w0 b T (fun V=>V.heap[g0]?=some (Obj.cells #[.slice pd nd cd,.slice pm nm cm,.slice pf nf cf,Zi A,.string O,.string N,.slice pq nq cq,Zi K,.string S,.slice pn nn cn,.slice pe ne ce,.slice pp np cp,.slice pb nb cb] 36)) w (Jc (ts) ((List.range nd).flatMap dt)) Wx))
 case first=>
  go_wp2_with fail;clear q0 q1 q2 q3 q4 q5 q6 q7 q8 q9 au av aw
  go_loopg [13] nd (fun gk i wr=>∃k:Nat,i=Zi k/\k+gk=nd/\ZH (Ok w0 b T (fun V=>V.heap[g0]?=some (Obj.cells #[.slice pd nd cd,.slice pm nm cm,.slice pf nf cf,Zi A,.string O,.string N,.slice pq nq cq,Zi K,.string S,.slice pn nn cn,.slice pe ne ce,.slice pp np cp,.slice pb nb cb] 36)) w (Jc (ts) ((List.range k).flatMap dt)) wr))
  case atStart=>exact⟨0,rfl,by omega,M⟩
  case round=>
   obtain⟨k,rfl,hk,U⟩:=hrel;by_cases az:k<nd
   ·have aA:(k:Int)<(nd:Int):=by omega
    obtain⟨g,o,j,r,s,u,p1,p2,p3,n1,n2,n3,k1,k2,k3,t,rfl,hc,hT,he⟩:=HD k az;obtain⟨z0,z1,z2,z3,z4,z5,z6⟩:=hc wr U.2.2.1;have HE:=J3 he;have PT:=J3 hT;have PW:=J3 (JH w0 b T [116,121,112,101]);have PO:=J3 (zdq w0 b T s);have PE:=J3 (JU w0 b T [61]);have PS:=J3 (JU w0 b T [59]);clear hc hT he HD HM HF PN;obtain⟨ao,ap⟩:=U.box HS #[Zi j,.string ⟨s.toArray⟩,Zi r,.string u,.slice p1 n1 k1,.slice p2 n2 k2,.slice p3 n3 k3] 52 (by decide);obtain⟨g1,aq⟩:∃g:Nat,g=wr.heap.size:=⟨_,rfl⟩
    rw[<-aq]at ao ap;have Y:ZH (∀W:Zw,W.heap[g1]?=some (Obj.cells #[Zi j,.string ⟨s.toArray⟩,Zi r,.string u,.slice p1 n1 k1,.slice p2 n2 k2,.slice p3 n3 k3] 52)->ZL7 W g1 (Zi j) (.string ⟨s.toArray⟩) (Zi r) (.string u) (.slice p1 n1 k1) (.slice p2 n2 k2) (.slice p3 n3 k3)):=fun W h=>dbox_heap (A:=j) (N:=⟨s.toArray⟩) (x:=⟨r,u,p1,p2,p3,n1,k1,n2,k2,n3,k3⟩) h
    have ax:=J3 aq;have HJ:=J3 ap;have ay:=J3 ao;have HK:=J3 (put_next (ts) dt k);clear ao ap aq U;go_upto_region 4 with fail
    obtain⟨W1,ar⟩:∃W:Zw,W=wr.alloc (Obj.cells #[Zi j,.string ⟨s.toArray⟩,Zi r,.string u,.slice p1 n1 k1,.slice p2 n2 k2,.slice p3 n3 k3] 52):=⟨_,rfl⟩
    rw[<-ar,<-J0 ax];have c:ZH (Ok w0 b T (fun V=>V.heap[g0]?=some (Obj.cells #[.slice (Zs g o) nd cd,.slice pm nm cm,.slice pf nf cf,Zi A,.string O,.string N,.slice pq nq cq,Zi K,.string S,.slice pn nn cn,.slice pe ne ce,.slice pp np cp,.slice pb nb cb] 36)/\V.heap[g1]?=some (Obj.cells #[Zi j,.string ⟨s.toArray⟩,Zi r,.string u,.slice p1 n1 k1,.slice p2 n2 k2,.slice p3 n3 k3] 52)) w (Jc (ts) ((List.range k).flatMap dt)) W1):=by rw[ar];exact ay
    clear ar ay ax z0 z1 z2 z3 z4 z5 z6;obtain⟨G,I,J,c3,c4,c5,L⟩:=Y _ c.2.2.2.2.2.2;obtain⟨t0,aL⟩:=Ze (Jc ts ((List.range k).flatMap dt))
    rw[<-aL]at c HK;clear aL;go_upto_region 5 with(go_at_call 65;refine(PW.ok (fun _ _=>trivial) HJ c).mono ?_;clear PW;rintro x wq ⟨rfl,ok⟩;clear c;have c:=J3 ok;clear ok;clear G I J c3 c4 c5 L;obtain⟨G,I,J,c3,c4,c5,L⟩:=Y _ c.2.2.2.2.2.2)
    go_cut [32] (fun _ wx=>∃Wy:Zw,Wy=wx/\ZH (Ok w0 b T (fun V=>V.heap[g0]?=some (Obj.cells #[.slice (Zs g o) nd cd,.slice pm nm cm,.slice pf nf cf,Zi A,.string O,.string N,.slice pq nq cq,Zi K,.string S,.slice pn nn cn,.slice pe ne ce,.slice pp np cp,.slice pb nb cb] 36)/\V.heap[g1]?=some (Obj.cells #[Zi j,.string ⟨s.toArray⟩,Zi r,.string u,.slice p1 n1 k1,.slice p2 n2 k2,.slice p3 n3 k3] 52)) w (Jc (Jc t0 [tW [116,121,112,101]]) [tT s]) Wy))
    case first=>
     go_region_with (go_at_call 66;refine(PO.ok (fun _ _=>trivial) HJ (c.drew HJ)).mono ?_;clear PO;rintro x wq ⟨rfl,ok⟩;clear c;have c:=J3 ok;clear ok;clear G I J c3 c4 c5 L;obtain⟨G,I,J,c3,c4,c5,L⟩:=Y _ c.2.2.2.2.2.2)
     all_goals
      go_wp2_with fail;go_meet
      case rel=>exact⟨_,rfl,c⟩
    case rest=>
    clear c;clear G I J c3 c4 c5 L;obtain⟨Wy,rfl,c⟩:=hcut;obtain⟨G,I,J,c3,c4,c5,L⟩:=Y _ c.2.2.2.2.2.2;go_upto_region 7 with(go_at_call 67;refine(PE.ok (fun _ _=>trivial) HJ c).mono ?_;clear PE;rintro x wq ⟨rfl,ok⟩;clear c;have c:=J3 ok;clear ok;clear G I J c3 c4 c5 L;obtain⟨G,I,J,c3,c4,c5,L⟩:=Y _ c.2.2.2.2.2.2)
    go_cut [47] (fun _ wx=>∃Wy:Zw,Wy=wx/\ZH (Ok w0 b T (fun V=>V.heap[g0]?=some (Obj.cells #[.slice (Zs g o) nd cd,.slice pm nm cm,.slice pf nf cf,Zi A,.string O,.string N,.slice pq nq cq,Zi K,.string S,.slice pn nn cn,.slice pe ne ce,.slice pp np cp,.slice pb nb cb] 36)/\V.heap[g1]?=some (Obj.cells #[Zi j,.string ⟨s.toArray⟩,Zi r,.string u,.slice p1 n1 k1,.slice p2 n2 k2,.slice p3 n3 k3] 52)) w (Jc (Jc (Jc (Jc t0 [tW [116,121,112,101]]) [tT s]) [tS [61]]) t) Wy))
    case first=>
     go_region_with (go_at_call 50;refine(PT.ok (fun _ _=>trivial) HJ (c.drew HJ)).mono ?_;clear PT;rintro x wq ⟨rfl,ok⟩;clear c;have c:=J3 ok;clear ok;clear G I J c3 c4 c5 L;obtain⟨G,I,J,c3,c4,c5,L⟩:=Y _ c.2.2.2.2.2.2)
     all_goals
      go_wp2_with fail;go_meet
      case rel=>exact⟨_,rfl,c⟩
    case rest=>
    clear c;clear G I J c3 c4 c5 L;obtain⟨Wy,rfl,c⟩:=hcut;obtain⟨G,I,J,c3,c4,c5,L⟩:=Y _ c.2.2.2.2.2.2;go_wp2_with (go_at_call 67;refine(PS.ok (fun _ _=>trivial) HJ c).mono ?_;clear PS;rintro x wq ⟨rfl,ok⟩;clear c;have c:=J3 ok;clear ok;clear G I J c3 c4 c5 L;obtain⟨G,I,J,c3,c4,c5,L⟩:=Y _ c.2.2.2.2.2.2);go_roundg (nd-(k+1))
    case measure=>omega
    case rel=>exact⟨k+1,by go_num,by omega,J3 (by rw[J0 HK,J0 HE];have ok:=J0 c;simp only[J8,Jq,JE]at ok ⊢;exact⟨ok.1,ok.2.1,ok.2.2.1,ok.2.2.2.1,ok.2.2.2.2.1,ok.2.2.2.2.2.1⟩)⟩
   ·obtain rfl:k=nd:=by omega
    have aA:¬(k:Int)<(k:Int):=by omega
    go_wp2_with fail;go_meet
    case rel=>exact⟨_,rfl,U⟩
 case rest=>
 clear M;clear q0 q1 q2 q3 q4 q5 q6 q7 q8 q9 au av aw;obtain⟨Wx,rfl,M⟩:=hcut;obtain⟨q0,q1,q2,q3,q4,q5,q6,q7,q8,q9,au,av,aw⟩:=CP _ M.2.2.2.2.2;obtain⟨aB,aG⟩:∃t1,t1=Jc ts ((List.range nd).flatMap dt):=⟨_,rfl⟩
 rw[<-aG]at M;have aM:=J3 aG;clear aG HD;go_upto_block 2 with fail
 go_cut [59] (fun _ wx=>∃Wx:Zw,Wx=wx/\ZH (Ok w0 b T (fun V=>V.heap[g0]?=some (Obj.cells #[.slice pd nd cd,.slice pm nm cm,.slice pf nf cf,Zi A,.string O,.string N,.slice pq nq cq,Zi K,.string S,.slice pn nn cn,.slice pe ne ce,.slice pp np cp,.slice pb nb cb] 36)) w (Jc (aB) ((List.range nm).flatMap mt)) Wx))
 case first=>
  go_wp2_with fail;clear q0 q1 q2 q3 q4 q5 q6 q7 q8 q9 au av aw
  go_loopg [59] nm (fun gk i wr=>∃k:Nat,i=Zi k/\k+gk=nm/\ZH (Ok w0 b T (fun V=>V.heap[g0]?=some (Obj.cells #[.slice pd nd cd,.slice pm nm cm,.slice pf nf cf,Zi A,.string O,.string N,.slice pq nq cq,Zi K,.string S,.slice pn nn cn,.slice pe ne ce,.slice pp np cp,.slice pb nb cb] 36)) w (Jc (aB) ((List.range k).flatMap mt)) wr))
  case atStart=>exact⟨0,rfl,by omega,M⟩
  case round=>
   obtain⟨k,rfl,hk,U⟩:=hrel;by_cases az:k<nm
   ·have aA:(k:Int)<(nm:Int):=by omega
    obtain⟨g,o,j,r,Z,N1,u,aa,ab,ac,ad,ae,af,ag,ah,ai,aj,ak,al,am,nb1,an,rfl,hc,hT⟩:=HM k az;obtain⟨z0,z1,z2,z3,z4,z5,z6,z7,z8,z9⟩:=hc wr U.2.2.1;have PT:=J3 hT;clear hc hT HM HF PN;obtain⟨ao,ap⟩:=U.box HS #[Zi j,.string Z,.string N1,.slice aa af ag,Zi r,.string u,.slice ab ah ai,.slice ac aj ak,.slice ad al am,.slice ae nb1 an] 34 (by decide);obtain⟨g1,aq⟩:∃g:Nat,g=wr.heap.size:=⟨_,rfl⟩
    rw[<-aq]at ao ap;have Y:ZH (∀W:Zw,W.heap[g1]?=some (Obj.cells #[Zi j,.string Z,.string N1,.slice aa af ag,Zi r,.string u,.slice ab ah ai,.slice ac aj ak,.slice ad al am,.slice ae nb1 an] 34)->ZL10 W g1 (Zi j) (.string Z) (.string N1) (.slice aa af ag) (Zi r) (.string u) (.slice ab ah ai) (.slice ac aj ak) (.slice ad al am) (.slice ae nb1 an)):=fun W h=>zfs (x:=⟨j,Z,N1,aa,af,ag,⟨r,u,ab,ac,ad,ah,ai,aj,ak,al,am⟩,ae,nb1,an⟩) h
    have ax:=J3 aq;have HJ:=J3 ap;have ay:=J3 ao;have HK:=J3 (put_next (aB) mt k);clear ao ap aq U;go_upto_region 13 with fail
    obtain⟨W1,ar⟩:∃W:Zw,W=wr.alloc (Obj.cells #[Zi j,.string Z,.string N1,.slice aa af ag,Zi r,.string u,.slice ab ah ai,.slice ac aj ak,.slice ad al am,.slice ae nb1 an] 34):=⟨_,rfl⟩
    rw[<-ar,<-J0 ax];have c:ZH (Ok w0 b T (fun V=>V.heap[g0]?=some (Obj.cells #[.slice pd nd cd,.slice (Zs g o) nm cm,.slice pf nf cf,Zi A,.string O,.string N,.slice pq nq cq,Zi K,.string S,.slice pn nn cn,.slice pe ne ce,.slice pp np cp,.slice pb nb cb] 36)/\V.heap[g1]?=some (Obj.cells #[Zi j,.string Z,.string N1,.slice aa af ag,Zi r,.string u,.slice ab ah ai,.slice ac aj ak,.slice ad al am,.slice ae nb1 an] 34)) w (Jc (aB) ((List.range k).flatMap mt)) W1):=by rw[ar];exact ay
    clear ar ay ax z0 z1 z2 z3 z4 z5 z6 z7 z8 z9;obtain⟨G,I,J,c3,c4,c5,L,c7,c8,c9⟩:=Y _ c.2.2.2.2.2.2;go_wp2_with (go_at_call 47;refine(PT.ok (fun _ _=>trivial) HJ c).mono ?_;clear PT;rintro x wq ⟨rfl,ok⟩;clear c;have c:=J3 ok;clear ok;clear G I J c3 c4 c5 L c7 c8 c9;obtain⟨G,I,J,c3,c4,c5,L,c7,c8,c9⟩:=Y _ c.2.2.2.2.2.2);go_roundg (nm-(k+1))
    case measure=>omega
    case rel=>exact⟨k+1,by go_num,by omega,J3 (by rw[J0 HK];have ok:=J0 c;exact⟨ok.1,ok.2.1,ok.2.2.1,ok.2.2.2.1,ok.2.2.2.2.1,ok.2.2.2.2.2.1⟩)⟩
   ·obtain rfl:k=nm:=by omega
    have aA:¬(k:Int)<(k:Int):=by omega
    go_wp2_with fail;go_meet
    case rel=>exact⟨_,rfl,U⟩
 case rest=>
 clear M;clear q0 q1 q2 q3 q4 q5 q6 q7 q8 q9 au av aw;obtain⟨Wx,rfl,M⟩:=hcut;obtain⟨q0,q1,q2,q3,q4,q5,q6,q7,q8,q9,au,av,aw⟩:=CP _ M.2.2.2.2.2;obtain⟨aC,aH⟩:∃t2,t2=Jc aB ((List.range nm).flatMap mt):=⟨_,rfl⟩
 rw[<-aH]at M;have aN:=J3 aH;clear aH HM;go_upto_block 4 with fail
 go_cut [70] (fun _ wx=>∃Wx:Zw,Wx=wx/\ZH (Ok w0 b T (fun V=>V.heap[g0]?=some (Obj.cells #[.slice pd nd cd,.slice pm nm cm,.slice pf nf cf,Zi A,.string O,.string N,.slice pq nq cq,Zi K,.string S,.slice pn nn cn,.slice pe ne ce,.slice pp np cp,.slice pb nb cb] 36)) w (Jc (aC) ((List.range nf).flatMap ft)) Wx))
 case first=>
  go_wp2_with fail;clear q0 q1 q2 q3 q4 q5 q6 q7 q8 q9 au av aw
  go_loopg [70] nf (fun gk i wr=>∃k:Nat,i=Zi k/\k+gk=nf/\ZH (Ok w0 b T (fun V=>V.heap[g0]?=some (Obj.cells #[.slice pd nd cd,.slice pm nm cm,.slice pf nf cf,Zi A,.string O,.string N,.slice pq nq cq,Zi K,.string S,.slice pn nn cn,.slice pe ne ce,.slice pp np cp,.slice pb nb cb] 36)) w (Jc (aC) ((List.range k).flatMap ft)) wr))
  case atStart=>exact⟨0,rfl,by omega,M⟩
  case round=>
   obtain⟨k,rfl,hk,U⟩:=hrel;by_cases az:k<nf
   ·have aA:(k:Int)<(nf:Int):=by omega
    obtain⟨g,o,j,r,Z,N1,u,aa,ab,ac,ad,ae,af,ag,ah,ai,aj,ak,al,am,nb1,an,rfl,hc,hT⟩:=HF k az;obtain⟨z0,z1,z2,z3,z4,z5,z6,z7,z8,z9⟩:=hc wr U.2.2.1;have PT:=J3 hT;clear hc hT HF PN;obtain⟨ao,ap⟩:=U.box HS #[Zi j,.string Z,.string N1,.slice aa af ag,Zi r,.string u,.slice ab ah ai,.slice ac aj ak,.slice ad al am,.slice ae nb1 an] 34 (by decide);obtain⟨g1,aq⟩:∃g:Nat,g=wr.heap.size:=⟨_,rfl⟩
    rw[<-aq]at ao ap;have Y:ZH (∀W:Zw,W.heap[g1]?=some (Obj.cells #[Zi j,.string Z,.string N1,.slice aa af ag,Zi r,.string u,.slice ab ah ai,.slice ac aj ak,.slice ad al am,.slice ae nb1 an] 34)->ZL10 W g1 (Zi j) (.string Z) (.string N1) (.slice aa af ag) (Zi r) (.string u) (.slice ab ah ai) (.slice ac aj ak) (.slice ad al am) (.slice ae nb1 an)):=fun W h=>zfs (x:=⟨j,Z,N1,aa,af,ag,⟨r,u,ab,ac,ad,ah,ai,aj,ak,al,am⟩,ae,nb1,an⟩) h
    have ax:=J3 aq;have HJ:=J3 ap;have ay:=J3 ao;have HK:=J3 (put_next (aC) ft k);clear ao ap aq U;go_upto_region 18 with fail
    obtain⟨W1,ar⟩:∃W:Zw,W=wr.alloc (Obj.cells #[Zi j,.string Z,.string N1,.slice aa af ag,Zi r,.string u,.slice ab ah ai,.slice ac aj ak,.slice ad al am,.slice ae nb1 an] 34):=⟨_,rfl⟩
    rw[<-ar,<-J0 ax];have c:ZH (Ok w0 b T (fun V=>V.heap[g0]?=some (Obj.cells #[.slice pd nd cd,.slice pm nm cm,.slice (Zs g o) nf cf,Zi A,.string O,.string N,.slice pq nq cq,Zi K,.string S,.slice pn nn cn,.slice pe ne ce,.slice pp np cp,.slice pb nb cb] 36)/\V.heap[g1]?=some (Obj.cells #[Zi j,.string Z,.string N1,.slice aa af ag,Zi r,.string u,.slice ab ah ai,.slice ac aj ak,.slice ad al am,.slice ae nb1 an] 34)) w (Jc (aC) ((List.range k).flatMap ft)) W1):=by rw[ar];exact ay
    clear ar ay ax z0 z1 z2 z3 z4 z5 z6 z7 z8 z9;obtain⟨G,I,J,c3,c4,c5,L,c7,c8,c9⟩:=Y _ c.2.2.2.2.2.2;go_wp2_with (go_at_call 47;refine(PT.ok (fun _ _=>trivial) HJ c).mono ?_;clear PT;rintro x wq ⟨rfl,ok⟩;clear c;have c:=J3 ok;clear ok;clear G I J c3 c4 c5 L c7 c8 c9;obtain⟨G,I,J,c3,c4,c5,L,c7,c8,c9⟩:=Y _ c.2.2.2.2.2.2);go_roundg (nf-(k+1))
    case measure=>omega
    case rel=>exact⟨k+1,by go_num,by omega,J3 (by rw[J0 HK];have ok:=J0 c;exact⟨ok.1,ok.2.1,ok.2.2.1,ok.2.2.2.1,ok.2.2.2.2.1,ok.2.2.2.2.2.1⟩)⟩
   ·obtain rfl:k=nf:=by omega
    have aA:¬(k:Int)<(k:Int):=by omega
    go_wp2_with fail;go_meet
    case rel=>exact⟨_,rfl,U⟩
 case rest=>
 clear M;clear q0 q1 q2 q3 q4 q5 q6 q7 q8 q9 au av aw;obtain⟨Wx,rfl,M⟩:=hcut;obtain⟨q0,q1,q2,q3,q4,q5,q6,q7,q8,q9,au,av,aw⟩:=CP _ M.2.2.2.2.2;go_wp2_with (go_at_call 47;refine(PN.ok (fun _ _=>trivial) HS M).mono ?_;clear PN;rintro x wq ⟨rfl,ok⟩);exact Yd (v:=.tuple #[]) (by simp[results,Tryz.results36,go_sem]) rfl (ok.fin (by rw[J0 aN,J0 aM];simp only[J8]))
theorem psT_fits {E:Nat} {c:List (Pa E)} (j:∀x∈c,x.1.length<=35184372088832/\za5 E [x.2]):Fits (psT E c):=by
 refine Jr (by decide) (Jd (ze1 fun k g=>?_) (Jr (by decide) Ji));rw[zar];refine Jd (zer (Jr (by decide) Ji) Ji) ?_;have g:=Yy.1 g;rw[Y6 g];have h:=j c[k] (by simp);exact Jr h.1 (zcd E false _ h.2 _ (by simp))
theorem zke {E D d m:Nat} {c:Co E D d m} (g:zjb E D d m c):Fits (coT E D d m c):=by
 obtain⟨f1,f2,f3,f4,f5,f6⟩:=g;refine Jd (zer (Jr (by decide) (Jr f1 (Jr (by decide) (Jr f2 (psT_fits f4))))) (zer (Jr (by decide) (Jr f2 (psT_fits f4))) (Jr (by decide) Ji))) (Jd (zcd E false _ f5 _ (by simp)) (Jr (by decide) (Jd (zjg D d m _ f6) (Jr (by decide) Ji))))
theorem prT_fits {E D d m:Nat} {p:Pr E D d m} (j:PrFit E D d m p):Fits (prT E D d m p):=by
 obtain⟨f1,f2,f3,f4,f5,f6,f7⟩:=j;refine Jd (ze1 fun x r=>?_) (Jd (ze1 fun c g=>zke (f4 c g)) (Jd (ze1 fun c g=>zke (f6 c g)) (zke f7)));have h:=f2 x r;exact Jr (by decide) (Jr h.1 (Jr (by decide) (Jd (zcd E false _ h.2 _ (by simp)) (Jr (by decide) Ji))))
theorem CoPart.of {w0:Zw} {b:Nat} {T:TypeId} {E D d m:Nat} {p:Zo} {n c:Nat} {cs:List (Co E D d m)} (j:CoRow w0 E D d m (.slice p n c) cs) (r:∀x∈cs,zjb E D d m x) (s:∀x∈cs,JD E D d m x=true) (k:Nat) (t:k<cs.length) :
  CoPart w0 b T p k ((cs[k]?.map (coT E D d m)).getD []):=by
 obtain⟨_,_,e,hp⟩:=j;injection e with u e2 e3
 subst u;have h:cs[k]?=some cs[k]:=Y6 t;obtain⟨g,o,y,rfl,a0,G⟩:=hp k cs[k] h;rw[h];refine⟨g,o,y.A,y.T.K,y.O,y.N,y.T.S,y.pq,y.T.pn,y.T.pe,y.T.pp,y.pb,y.nq,y.cq,y.T.nn,y.T.cn,y.T.ne,y.T.ce,y.T.np,y.T.cp,y.nb,y.cb,rfl,fun W I=>?_,zfd G (r cs[k] (by simp)) (s cs[k] (by simp))⟩;obtain⟨b0,J,L,M,⟨U,V,Y,Z,b8⟩,b9⟩:=a0.below I;exact⟨b0,J,L,M,U,V,Y,Z,b8,b9⟩
theorem DePart.of {w0:Zw} {b:Nat} {T:TypeId} {E:Nat} {p:Zo} {n c:Nat} {h:List (De E)} (G:DeRow w0 E (.slice p n c) h) (I:∀x∈h,x.2.1.length<=35184372088832/\za5 E [x.2.2]) (r:zc5 E h=true) (k:Nat) (J:k<h.length) :
  DePart w0 b T p k ((h[k]?.map (deT E)).getD []):=by
 obtain⟨_,_,e,hp⟩:=G;injection e with L Z e3
 subst L;have s:h[k]?=some h[k]:=Y6 J;obtain⟨g,o,y,rfl,a0,t,a2,a3⟩:=hp k h[k] s;rw[zc5,Yn]at r;have u:=r h[k] (by simp);rw[Yc]at u;rw[s];refine⟨g,o,h[k].1,y.K,h[k].2.1,y.S,y.pn,y.pe,y.pp,y.nn,y.ne,y.np,y.cn,y.ce,y.cp,Jf E false h[k].2.2,rfl,fun W j=>?_,typutsD a3 (I h[k] (by simp)).2 u.2,rfl⟩;obtain⟨b0,M,U,V,Y⟩:=a2.below j;exact⟨(j.cell (p:=⟨g,_,none⟩) (J2 a0)).trans a0,(j.cell (p:=⟨g,_,none⟩) (J2 t)).trans t,b0,M,U,V,Y⟩
theorem CoRow.len {W:Zw} {E D d m:Nat} {p:Zo} {n c:Nat} {cs:List (Co E D d m)} (h:CoRow W E D d m (.slice p n c) cs):n=cs.length:=by
 obtain⟨_,_,e,_⟩:=h;injection e
theorem DeRow.len {W:Zw} {E:Nat} {p:Zo} {n c:Nat} {g:List (De E)} (h:DeRow W E (.slice p n c) g):n=g.length:=by
 obtain⟨_,_,e,_⟩:=h;injection e
theorem zjz {w0:Zw} {b:Nat} {T:TypeId} {E D d m:Nat} {x:P13} {p:Pr E D d m} (j:PrIs w0 E D d m x p) (r:PrFit E D d m p) (g:zb9 E D d m p=true) :
  Puts w0 b T (fun _=>True) 36 #[.pointer (Zs b 0),x.val] (prT E D d m p):=by
 obtain⟨pd,nd,cd,pm,nm,cm,pf,nf,cf,⟨A,O,N,pq,nq,cq,⟨K,S,pn,pe,pp,nn,cn,ne,ce,np,cp⟩,pb,nb,cb⟩⟩:=x;obtain⟨v1,v2,v3,v4⟩:=j;obtain⟨f1,f2,f3,f4,f5,f6,f7⟩:=r;dsimp only at v1 v2 v3 v4;have s:=v1.len;have t:=v2.len;have u:=v3.len;subst s t u;rw[zb9,Yc,Yc,Yc,Yc,Yn,Yn]at g;obtain⟨⟨⟨⟨G,I⟩,J⟩,_⟩,L⟩:=g;have M:∀x∈p.2.1,JD E D d m x=true:=fun x c=>by
  have h:=I x c;rw[Yc]at h;exact h.2
 have U:∀x∈p.2.2.1,JD E D d m x=true:=fun x c=>by
  have h:=J x c;rw[Yc]at h;exact h.2
 have V:∀k,k<p.1.length->DePart w0 b T pd k ((fun i=>(p.1[i]?.map (deT E)).getD []) k):=DePart.of v1 f2 G
 have Y:∀k,k<p.2.1.length->CoPart w0 b T pm k ((fun i=>(p.2.1[i]?.map (coT E D d m)).getD []) k):=CoPart.of v2 f4 M
 have Z:∀k,k<p.2.2.1.length->CoPart w0 b T pf k ((fun i=>(p.2.2.1[i]?.map (coT E D d m)).getD []) k):=CoPart.of v3 f6 U
 have h4:=zfd (b:=b) (T:=T) v4 f7 L;have h:=prog_run w0 b T A K O N S pd pm pf pq pn pe pp pb p.1.length cd p.2.1.length cm p.2.2.1.length cf nq cq nn cn ne ce np cp nb cb (fun i=>(p.1[i]?.map (deT E)).getD []) (fun i=>(p.2.1[i]?.map (coT E D d m)).getD []) (fun i=>(p.2.2.1[i]?.map (coT E D d m)).getD []) (coT E D d m p.2.2.2) f1 f3 f5 V Y Z h4;rw[<-zdy (deT E) p.1,<-zdy (coT E D d m) p.2.1,<-zdy (coT E D d m) p.2.2.1]at h;exact h
theorem Code_any (E D d m:Nat) (x:C10) (c:Co E D d m) (w:Zw) (hv:CoIs w E D d m x c) (hf:zjb E D d m c) (ht:Tab w) (h5:4<=w.heap.size) :
  ZC 14 #[x.val] w (JI (zhg E D d m c)):=by
 obtain⟨A,O,N,pq,nq,cq,⟨K,S,pn,pe,pp,nn,cn,ne,ce,np,cp⟩,pb,nb,cb⟩:=x;have J:=J3 hv;have u:=J3 hf;have L:=J3 ht;have M:ZH (zhg E D d m c=if JD E D d m c=true then join (Jc [] (coT E D d m c))else .inl 1):=rfl;clear hv ht hf;go_enter Tryz.func14,Tryz.ntmps14;go_upto_region 1 with fail
 obtain⟨W0,U⟩:∃W:Zw,W=w.alloc (Obj.cells #[Zi A,.string O,.string N,.slice pq nq cq,Zi K,.string S,.slice pn nn cn,.slice pe ne ce,.slice pp np cp,.slice pb nb cb] 34):=⟨_,rfl⟩
 obtain⟨g0,aa⟩:∃g:Nat,g=w.heap.size:=⟨_,rfl⟩
 rw[<-U,<-aa];have C0:ZH (ZL10 W0 g0 (Zi A) (.string O) (.string N) (.slice pq nq cq) (Zi K) (.string S) (.slice pn nn cn) (.slice pe ne ce) (.slice pp np cp) (.slice pb nb cb)):=by
  rw[U,aa];exact zbr (x:=⟨A,O,N,pq,nq,cq,⟨K,S,pn,pe,pp,nn,cn,ne,ce,np,cp⟩,pb,nb,cb⟩) Zr
 have H0:ZH (ZB w W0):=by rw[U];exact Za _ _
 clear U aa;have CC:ZH (∀W,ZB W0 W->ZL10 W g0 (Zi A) (.string O) (.string N) (.slice pq nq cq) (Zi K) (.string S) (.slice pn nn cn) (.slice pe ne ce) (.slice pp np cp) (.slice pb nb cb)):=fun W h=>zbp C0 h
 have up:∀W,ZB W0 W->ZB w W:=fun W h=>Zn H0 h
 have UP:=J3 up;have t:ZH (ZC 46 #[(.agg #[Zi A,.string O,.string N,.slice pq nq cq,Zi K,.string S,.slice pn nn cn,.slice pe ne ce,.slice pp np cp,.slice pb nb cb])] W0 (.bool (JD E D d m c))):=zdv E D d m ⟨A,O,N,pq,nq,cq,⟨K,S,pn,pe,pp,nn,cn,ne,ce,np,cp⟩,pb,nb,cb⟩ c W0 (J.below H0) u (L.below H0 h5) (by have:=H0.size;omega);by_cases j:JD E D d m c=true
 ·rw[Ye j]at M;rw[j]at t;obtain⟨s,y,hj⟩:=zcl (join (Jc [] (coT E D d m c)));have CL:ZH (∀w1:Zw,ZB W0 w1 ->
    Zg 47 #[.pointer (Zs w1.heap.size 0),(.agg #[Zi A,.string O,.string N,.slice pq nq cq,Zi K,.string S,.slice pn nn cn,.slice pe ne ce,.slice pp np cp,.slice pb nb cb])] (w1.alloc (.cells #[Zz] 84)) fun e w'=>e=.returned (.tuple #[])/\ZB w w' /\
     Zg 37 #[.pointer (Zs w1.heap.size 0)] w' fun e ad=>e=.returned (.tuple #[.string s,Zi y])/\ZB w ad):=fun w1 h1=>by
   have ab:=up w1 h1;have ae:=ab.size;have ha:ZB w1 (w1.alloc (.cells #[Zz] 84)):=Za _ _;refine(zfd (w0:=w1) (b:=w1.heap.size) (T:=84) (x:=⟨A,O,N,pq,nq,cq,⟨K,S,pn,pe,pp,nn,cn,ne,ce,np,cp⟩,pb,nb,cb⟩) (J.below ab) u j [] _ (WrAt.new w1 _ (by decide)) (by simp) ha trivial).mono ?_;rintro x w2 ⟨rfl,af,ag,_⟩;have G:ZB w w2:=ab.trans ((ha.trans ag).mono ae);refine⟨rfl,G,?_⟩;rw[<-hj];refine(zih _ _ _ _ w2 af (zah _ _ (by simp)) (zi4 _ _ Ji (zke u)) (L.below G h5) (by have:=G.size;omega)).mono ?_;rintro x w3 ⟨rfl,ac⟩;exact⟨rfl,Zn G ac⟩
  have HJ:=J3 hj;clear hj up J u L UP j;obtain⟨I,V,Y,c3,c4,c5,Z,c7,c8,c9⟩:=J0 C0;go_wp2_with (first
   | (go_at_call 46;refine t.mono ?_;clear t;rintro x w1 ⟨rfl,r⟩;clear I V Y c3 c4 c5 Z c7 c8 c9;obtain⟨I,V,Y,c3,c4,c5,Z,c7,c8,c9⟩:=CC _ r;obtain⟨d0,d1,d2,d3,d4,d5,d6,d7,d8,d9⟩:=CC _ (r.alloc r.size (.cells #[Zz] 84));have ah:g0<w1.heap.size:=J2 I;have WT:=J3 (J0 CL w1 r);clear CL CC r)
   | (go_at_call 47;refine WT.mono ?_;clear WT;rintro x w2 ⟨rfl,G,tx⟩;have TX:=J3 tx;clear tx)
   | (go_at_call 37;refine TX.mono ?_;clear TX;rintro x w3 ⟨rfl,ac⟩))
  go_ret2;exact⟨by rw[J0 M,J0 HJ];rfl,ac⟩
 ·have j:=(Yb _).mp j;rw[Y7 (by rw[j];simp)]at M;rw[j]at t;clear up J u L j;obtain⟨I,V,Y,c3,c4,c5,Z,c7,c8,c9⟩:=J0 C0;go_wp2_with (go_at_call 46;refine t.mono ?_;clear t;rintro x w1 ⟨rfl,r⟩;clear I V Y c3 c4 c5 Z c7 c8 c9);go_ret2;exact⟨by rw[J0 M];rfl,UP _ r⟩
theorem Program_any (E D d m:Nat) (x:P13) (c:Pr E D d m) (w:Zw) (hv:PrIs w E D d m x c) (hf:PrFit E D d m c) (ht:Tab w) (h5:4<=w.heap.size) :
  ZC 9 #[x.val] w (JI (zhs E D d m c)):=by
 obtain⟨pd,nd,cd,pm,nm,cm,pf,nf,cf,⟨A,O,N,pq,nq,cq,⟨K,S,pn,pe,pp,nn,cn,ne,ce,np,cp⟩,pb,nb,cb⟩⟩:=x;have J:=J3 hv;have u:=J3 hf;have L:=J3 ht;have M:ZH (zhs E D d m c=if zb9 E D d m c=true then join (Jc [] (prT E D d m c))else .inl 1):=rfl;clear hv ht hf;go_enter Tryz.func9,Tryz.ntmps9;go_upto_region 1 with fail
 obtain⟨W0,U⟩:∃W:Zw,W=w.alloc (Obj.cells #[.slice pd nd cd,.slice pm nm cm,.slice pf nf cf,Zi A,.string O,.string N,.slice pq nq cq,Zi K,.string S,.slice pn nn cn,.slice pe ne ce,.slice pp np cp,.slice pb nb cb] 36):=⟨_,rfl⟩
 obtain⟨g0,ad⟩:∃g:Nat,g=w.heap.size:=⟨_,rfl⟩
 rw[<-U,<-ad];have C0:ZH (ZL13 W0 g0 (.slice pd nd cd) (.slice pm nm cm) (.slice pf nf cf) (Zi A) (.string O) (.string N) (.slice pq nq cq) (Zi K) (.string S) (.slice pn nn cn) (.slice pe ne ce) (.slice pp np cp) (.slice pb nb cb)):=by
  rw[U,ad];exact zbj (x:=⟨pd,nd,cd,pm,nm,cm,pf,nf,cf,⟨A,O,N,pq,nq,cq,⟨K,S,pn,pe,pp,nn,cn,ne,ce,np,cp⟩,pb,nb,cb⟩⟩) Zr
 have H0:ZH (ZB w W0):=by rw[U];exact Za _ _
 clear U ad;have CC:ZH (∀W,ZB W0 W->ZL13 W g0 (.slice pd nd cd) (.slice pm nm cm) (.slice pf nf cf) (Zi A) (.string O) (.string N) (.slice pq nq cq) (Zi K) (.string S) (.slice pn nn cn) (.slice pe ne ce) (.slice pp np cp) (.slice pb nb cb)):=fun W h=>zc1 C0 h
 have up:∀W,ZB W0 W->ZB w W:=fun W h=>Zn H0 h
 have UP:=J3 up;have t:ZH (ZC 35 #[(.agg #[.slice pd nd cd,.slice pm nm cm,.slice pf nf cf,Zi A,.string O,.string N,.slice pq nq cq,Zi K,.string S,.slice pn nn cn,.slice pe ne ce,.slice pp np cp,.slice pb nb cb])] W0 (.bool (zb9 E D d m c))):=zk0 E D d m ⟨pd,nd,cd,pm,nm,cm,pf,nf,cf,⟨A,O,N,pq,nq,cq,⟨K,S,pn,pe,pp,nn,cn,ne,ce,np,cp⟩,pb,nb,cb⟩⟩ c W0 (J.below H0) u (L.below H0 h5) (by have:=H0.size;omega);by_cases j:zb9 E D d m c=true
 ·rw[Ye j]at M;rw[j]at t;obtain⟨s,y,hj⟩:=zcl (join (Jc [] (prT E D d m c)));have CL:ZH (∀w1:Zw,ZB W0 w1 ->
    Zg 36 #[.pointer (Zs w1.heap.size 0),(.agg #[.slice pd nd cd,.slice pm nm cm,.slice pf nf cf,Zi A,.string O,.string N,.slice pq nq cq,Zi K,.string S,.slice pn nn cn,.slice pe ne ce,.slice pp np cp,.slice pb nb cb])] (w1.alloc (.cells #[Zz] 84)) fun e w'=>e=.returned (.tuple #[])/\ZB w w' /\
     Zg 37 #[.pointer (Zs w1.heap.size 0)] w' fun e ag=>e=.returned (.tuple #[.string s,Zi y])/\ZB w ag):=fun w1 h1=>by
   have ae:=up w1 h1;have ah:=ae.size;have ha:ZB w1 (w1.alloc (.cells #[Zz] 84)):=Za _ _;refine(zjz (w0:=w1) (b:=w1.heap.size) (T:=84) (x:=⟨pd,nd,cd,pm,nm,cm,pf,nf,cf,⟨A,O,N,pq,nq,cq,⟨K,S,pn,pe,pp,nn,cn,ne,ce,np,cp⟩,pb,nb,cb⟩⟩) (J.below ae) u j [] _ (WrAt.new w1 _ (by decide)) (by simp) ha trivial).mono ?_;rintro x w2 ⟨rfl,ai,aj,_⟩;have G:ZB w w2:=ae.trans ((ha.trans aj).mono ah);refine⟨rfl,G,?_⟩;rw[<-hj];refine(zih _ _ _ _ w2 ai (zah _ _ (by simp)) (zi4 _ _ Ji (prT_fits u)) (L.below G h5) (by have:=G.size;omega)).mono ?_;rintro x w3 ⟨rfl,af⟩;exact⟨rfl,Zn G af⟩
  have HJ:=J3 hj;clear hj up J u L UP j;obtain⟨I,V,Y,Z,q4,q5,q6,q7,q8,q9,aa,ab,ac⟩:=J0 C0;go_wp2_with (first
   | (go_at_call 35;refine t.mono ?_;clear t;rintro x w1 ⟨rfl,r⟩;clear I V Y Z q4 q5 q6 q7 q8 q9 aa ab ac;obtain⟨I,V,Y,Z,q4,q5,q6,q7,q8,q9,aa,ab,ac⟩:=CC _ r;obtain⟨d0,d1,d2,d3,d4,d5,d6,d7,d8,d9,d10,d11,d12⟩:=CC _ (r.alloc r.size (.cells #[Zz] 84));have ak:g0<w1.heap.size:=J2 I;have WT:=J3 (J0 CL w1 r);clear CL CC r)
   | (go_at_call 36;refine WT.mono ?_;clear WT;rintro x w2 ⟨rfl,G,tx⟩;have TX:=J3 tx;clear tx)
   | (go_at_call 37;refine TX.mono ?_;clear TX;rintro x w3 ⟨rfl,af⟩))
  go_ret2;exact⟨by rw[J0 M,J0 HJ];rfl,af⟩
 ·have j:=(Yb _).mp j;rw[Y7 (by rw[j];simp)]at M;rw[j]at t;clear up J u L j;obtain⟨I,V,Y,Z,q4,q5,q6,q7,q8,q9,aa,ab,ac⟩:=J0 C0;go_wp2_with (go_at_call 35;refine t.mono ?_;clear t;rintro x w1 ⟨rfl,r⟩;clear I V Y Z q4 q5 q6 q7 q8 q9 aa ab ac);go_ret2;exact⟨by rw[J0 M];rfl,UP _ r⟩
end Go.Proofs.YtdcbglnhhbmpgaaGreatDoor
