import Derived.Test.YtdcbglnhhbmpgaaGreatDoorQCdA
set_option maxHeartbeats 4000000
set_option maxRecDepth 100000
namespace Go.Proofs.YtdcbglnhhbmpgaaGreatDoor
open Go Go.RowKit Lx
def zca (E D d m:Nat) (cs:List (Co E D d m)):Bool:=cs.all fun c=>zav (zcw c) (JV c)&&JD E D d m c
theorem zhw {E D d m:Nat} {cs:List (Co E D d m)} {k:Nat} (h:k<cs.length):zca E D d m (cs.drop k)=(zav (zcw cs[k]) (JV cs[k])&&JD E D d m cs[k]&&zca E D d m (cs.drop (k+1))):=by
 rw[Yt h,zca,zca,YL]
theorem rightMs_any (E D d m:Nat) (v:Value) (cs:List (Co E D d m)) (w:Zw) (hv:CoRow w E D d m v cs) (hl:cs.length<=1000000) (hf:∀c∈cs,zjb E D d m c) (ht:Tab w) (h5:4<=w.heap.size) :
  ZC 61 #[v,.func (.func 62) #[] #[]] w (.bool (zca E D d m cs)):=by
 obtain⟨p,c,rfl,hp⟩:=hv;have HP:=J3 hp;have HF:=J3 hf;have HT:=J3 ht;clear hp hf ht;go_enter Tryz.func61,Tryz.ntmps61;go_wp2
 go_loopw [9] (fun i wr=>∃k:Nat,i=Zi k/\k<=cs.length/\ZH (zca E D d m cs=zca E D d m (cs.drop k))/\ZB w wr) (fun i _=>cs.length-(intOf i).toNat)
 case atStart=>exact⟨0,rfl,by omega,rfl,Zr⟩
 case round=>
  obtain⟨k,rfl,hk,Y,j⟩:=hrel;by_cases ae:k<cs.length
  ·obtain⟨g,o,⟨A,O,N,pq,nq,cq,⟨K,S,pn,pe,pp,nn,cn,ne,ce,np,cp⟩,pb,nb,cb⟩,rfl,⟨a0,a1,a2,a3,⟨a4,a5,a6,a7,a8⟩,a9⟩,Z⟩:=HP k cs[k] (by simp[ae]);have aj:(k:Int)<(cs.length:Int):=by omega
   have af:=HF cs[k] (by simp);have hg:=J2 a0;have b0:wr.cell? ⟨g,o+k*10,none⟩=some (Zi A):=Zq j a0;have b1:wr.cell? ⟨g,o+k*10+1,none⟩=some (.string O):=Zq j a1;have b2:wr.cell? ⟨g,o+k*10+2,none⟩=some (.string N):=Zq j a2;have b3:wr.cell? ⟨g,o+k*10+3,none⟩=some (.slice pq nq cq):=Zq j a3;have b4:wr.cell? ⟨g,o+k*10+4,none⟩=some (Zi K):=Zq j a4;have b5:wr.cell? ⟨g,o+k*10+5,none⟩=some (.string S):=Zq j a5;have b6:wr.cell? ⟨g,o+k*10+6,none⟩=some (.slice pn nn cn):=Zq j a6;have b7:wr.cell? ⟨g,o+k*10+7,none⟩=some (.slice pe ne ce):=Zq j a7;have b8:wr.cell? ⟨g,o+k*10+8,none⟩=some (.slice pp np cp):=Zq j a8;have b9:wr.cell? ⟨g,o+k*10+9,none⟩=some (.slice pb nb cb):=Zq j a9;have HD:=J3 (zhw ae);have ag:=J3 j;obtain⟨z1,ab⟩:∃z,z=zav (zcw cs[k]) (JV cs[k]):=⟨_,rfl⟩
   obtain⟨z2,ac⟩:∃z,z=JD E D d m cs[k]:=⟨_,rfl⟩
   have M:ZH (∀W,ZC 62 #[(.agg #[Zi A,.string O,.string N,.slice pq nq cq,Zi K,.string S,.slice pn nn cn,.slice pe ne ce,.slice pp np cp,.slice pb nb cb])] W (.bool z1)):=fun W=>by
    rw[ab];exact zdf ⟨A,O,N,pq,nq,cq,⟨K,S,pn,pe,pp,nn,cn,ne,ce,np,cp⟩,pb,nb,cb⟩ _ _ W Z.2.1 Z.2.2.1
   have U:ZH (∀W,ZB w W->ZC 46 #[(.agg #[Zi A,.string O,.string N,.slice pq nq cq,Zi K,.string S,.slice pn nn cn,.slice pe ne ce,.slice pp np cp,.slice pb nb cb])] W (.bool z2)):=fun W h=>by
    rw[ac];exact zdv E D d m ⟨A,O,N,pq,nq,cq,⟨K,S,pn,pe,pp,nn,cn,ne,ce,np,cp⟩,pb,nb,cb⟩ cs[k] W (Z.below h) af (HT.below h h5) (by have:=h.size;omega)
   rw[<-ab,<-ac]at HD;clear a0 a1 a2 a3 a4 a5 a6 a7 a8 a9 j ab ac hg Z af;go_upto_region 4 with fail
   obtain⟨W0,aa⟩:∃W:Zw,W=wr.alloc (Obj.cells #[Zi A,.string O,.string N,.slice pq nq cq,Zi K,.string S,.slice pn nn cn,.slice pe ne ce,.slice pp np cp,.slice pb nb cb] 34):=⟨_,rfl⟩
   obtain⟨g0,ad⟩:∃g:Nat,g=wr.heap.size:=⟨_,rfl⟩
   rw[<-aa,<-ad];have C0:ZH (ZL10 W0 g0 (Zi A) (.string O) (.string N) (.slice pq nq cq) (Zi K) (.string S) (.slice pn nn cn) (.slice pe ne ce) (.slice pp np cp) (.slice pb nb cb)):=by
    rw[aa,ad];exact zbr (x:=⟨A,O,N,pq,nq,cq,⟨K,S,pn,pe,pp,nn,cn,ne,ce,np,cp⟩,pb,nb,cb⟩) Zr
   have H0:ZH (ZB w W0):=by rw[aa];exact ag.alloc ag.size _
   clear aa ad b0 b1 b2 b3 b4 b5 b6 b7 b8 b9;have V:ZH (∀W,ZB W0 W->ZL10 W g0 (Zi A) (.string O) (.string N) (.slice pq nq cq) (Zi K) (.string S) (.slice pn nn cn) (.slice pe ne ce) (.slice pp np cp) (.slice pb nb cb)):=fun W h=>zbp C0 h
   have ah:ZH (∀W,ZB W0 W->ZC 46 #[(.agg #[Zi A,.string O,.string N,.slice pq nq cq,Zi K,.string S,.slice pn nn cn,.slice pe ne ce,.slice pp np cp,.slice pb nb cb])] W (.bool z2)):=fun W h=>J0 U W (Zn H0 h)
   have ai:ZH (∀W,ZB W0 W->ZC 62 #[(.agg #[Zi A,.string O,.string N,.slice pq nq cq,Zi K,.string S,.slice pn nn cn,.slice pe ne ce,.slice pp np cp,.slice pb nb cb])] W (.bool z1)):=fun W _=>J0 M W
   clear U M;have U:=ah;have M:=ai;clear ah ai;have r:ZH (ZB W0 W0):=Zr;obtain⟨s,t,u,c3,c4,c5,G,I,J,L⟩:=J0 C0
   cases z1
   ·go_wp2_with (first|(go_at_call 62;refine(M _ r).mono ?_;clear M;rintro x wa ⟨rfl,j⟩;replace r:=J3 (Zn r j);clear j;clear s t u c3 c4 c5 G I J L;obtain⟨s,t,u,c3,c4,c5,G,I,J,L⟩:=V _ r)|(go_at_call 46;refine(U _ r).mono ?_;clear U;rintro x wb ⟨rfl,j⟩;replace r:=J3 (Zn r j);clear j;clear s t u c3 c4 c5 G I J L;obtain⟨s,t,u,c3,c4,c5,G,I,J,L⟩:=V _ r));go_ret;exact⟨by rw[J0 Y,J0 HD];rfl,Zn H0 r⟩
   ·cases z2
    ·go_wp2_with (first|(go_at_call 62;refine(M _ r).mono ?_;clear M;rintro x wa ⟨rfl,j⟩;replace r:=J3 (Zn r j);clear j;clear s t u c3 c4 c5 G I J L;obtain⟨s,t,u,c3,c4,c5,G,I,J,L⟩:=V _ r)|(go_at_call 46;refine(U _ r).mono ?_;clear U;rintro x wb ⟨rfl,j⟩;replace r:=J3 (Zn r j);clear j;clear s t u c3 c4 c5 G I J L;obtain⟨s,t,u,c3,c4,c5,G,I,J,L⟩:=V _ r));go_ret;exact⟨by rw[J0 Y,J0 HD];rfl,Zn H0 r⟩
    ·go_wp2_with (first|(go_at_call 62;refine(M _ r).mono ?_;clear M;rintro x wa ⟨rfl,j⟩;replace r:=J3 (Zn r j);clear j;clear s t u c3 c4 c5 G I J L;obtain⟨s,t,u,c3,c4,c5,G,I,J,L⟩:=V _ r)|(go_at_call 46;refine(U _ r).mono ?_;clear U;rintro x wb ⟨rfl,j⟩;replace r:=J3 (Zn r j);clear j;clear s t u c3 c4 c5 G I J L;obtain⟨s,t,u,c3,c4,c5,G,I,J,L⟩:=V _ r));go_roundw
     case rel=>exact⟨k+1,by go_num,by omega,J3 (by rw[J0 Y,J0 HD];rfl),Zn H0 r⟩
     case measure=>simp[intOf];omega
  ·go_wp2;go_ret;exact⟨by rw[J0 Y,Yg (by omega)];rfl,j⟩
def zc9 (E D d m:Nat) (cs:List (Co E D d m)):Bool:=cs.all fun c=>zdc (zcw c) (JV c)&&JD E D d m c
theorem zj4 {E D d m:Nat} {cs:List (Co E D d m)} {k:Nat} (h:k<cs.length):zc9 E D d m (cs.drop k)=(zdc (zcw cs[k]) (JV cs[k])&&JD E D d m cs[k]&&zc9 E D d m (cs.drop (k+1))):=by
 rw[Yt h,zc9,zc9,YL]
theorem rightFs_any (E D d m:Nat) (v:Value) (cs:List (Co E D d m)) (w:Zw) (hv:CoRow w E D d m v cs) (hl:cs.length<=1000000) (hf:∀c∈cs,zjb E D d m c) (ht:Tab w) (h5:4<=w.heap.size) :
  ZC 61 #[v,.func (.func 63) #[] #[]] w (.bool (zc9 E D d m cs)):=by
 obtain⟨p,c,rfl,hp⟩:=hv;have HP:=J3 hp;have HF:=J3 hf;have HT:=J3 ht;clear hp hf ht;go_enter Tryz.func61,Tryz.ntmps61;go_wp2
 go_loopw [9] (fun i wr=>∃k:Nat,i=Zi k/\k<=cs.length/\ZH (zc9 E D d m cs=zc9 E D d m (cs.drop k))/\ZB w wr) (fun i _=>cs.length-(intOf i).toNat)
 case atStart=>exact⟨0,rfl,by omega,rfl,Zr⟩
 case round=>
  obtain⟨k,rfl,hk,Y,j⟩:=hrel;by_cases ae:k<cs.length
  ·obtain⟨g,o,⟨A,O,N,pq,nq,cq,⟨K,S,pn,pe,pp,nn,cn,ne,ce,np,cp⟩,pb,nb,cb⟩,rfl,⟨a0,a1,a2,a3,⟨a4,a5,a6,a7,a8⟩,a9⟩,Z⟩:=HP k cs[k] (by simp[ae]);have aj:(k:Int)<(cs.length:Int):=by omega
   have af:=HF cs[k] (by simp);have hg:=J2 a0;have b0:wr.cell? ⟨g,o+k*10,none⟩=some (Zi A):=Zq j a0;have b1:wr.cell? ⟨g,o+k*10+1,none⟩=some (.string O):=Zq j a1;have b2:wr.cell? ⟨g,o+k*10+2,none⟩=some (.string N):=Zq j a2;have b3:wr.cell? ⟨g,o+k*10+3,none⟩=some (.slice pq nq cq):=Zq j a3;have b4:wr.cell? ⟨g,o+k*10+4,none⟩=some (Zi K):=Zq j a4;have b5:wr.cell? ⟨g,o+k*10+5,none⟩=some (.string S):=Zq j a5;have b6:wr.cell? ⟨g,o+k*10+6,none⟩=some (.slice pn nn cn):=Zq j a6;have b7:wr.cell? ⟨g,o+k*10+7,none⟩=some (.slice pe ne ce):=Zq j a7;have b8:wr.cell? ⟨g,o+k*10+8,none⟩=some (.slice pp np cp):=Zq j a8;have b9:wr.cell? ⟨g,o+k*10+9,none⟩=some (.slice pb nb cb):=Zq j a9;have HD:=J3 (zj4 ae);have ag:=J3 j;obtain⟨z1,ab⟩:∃z,z=zdc (zcw cs[k]) (JV cs[k]):=⟨_,rfl⟩
   obtain⟨z2,ac⟩:∃z,z=JD E D d m cs[k]:=⟨_,rfl⟩
   have M:ZH (∀W,ZC 63 #[(.agg #[Zi A,.string O,.string N,.slice pq nq cq,Zi K,.string S,.slice pn nn cn,.slice pe ne ce,.slice pp np cp,.slice pb nb cb])] W (.bool z1)):=fun W=>by
    rw[ab];exact zgk ⟨A,O,N,pq,nq,cq,⟨K,S,pn,pe,pp,nn,cn,ne,ce,np,cp⟩,pb,nb,cb⟩ _ _ W Z.2.1 Z.2.2.1
   have U:ZH (∀W,ZB w W->ZC 46 #[(.agg #[Zi A,.string O,.string N,.slice pq nq cq,Zi K,.string S,.slice pn nn cn,.slice pe ne ce,.slice pp np cp,.slice pb nb cb])] W (.bool z2)):=fun W h=>by
    rw[ac];exact zdv E D d m ⟨A,O,N,pq,nq,cq,⟨K,S,pn,pe,pp,nn,cn,ne,ce,np,cp⟩,pb,nb,cb⟩ cs[k] W (Z.below h) af (HT.below h h5) (by have:=h.size;omega)
   rw[<-ab,<-ac]at HD;clear a0 a1 a2 a3 a4 a5 a6 a7 a8 a9 j ab ac hg Z af;go_upto_region 4 with fail
   obtain⟨W0,aa⟩:∃W:Zw,W=wr.alloc (Obj.cells #[Zi A,.string O,.string N,.slice pq nq cq,Zi K,.string S,.slice pn nn cn,.slice pe ne ce,.slice pp np cp,.slice pb nb cb] 34):=⟨_,rfl⟩
   obtain⟨g0,ad⟩:∃g:Nat,g=wr.heap.size:=⟨_,rfl⟩
   rw[<-aa,<-ad];have C0:ZH (ZL10 W0 g0 (Zi A) (.string O) (.string N) (.slice pq nq cq) (Zi K) (.string S) (.slice pn nn cn) (.slice pe ne ce) (.slice pp np cp) (.slice pb nb cb)):=by
    rw[aa,ad];exact zbr (x:=⟨A,O,N,pq,nq,cq,⟨K,S,pn,pe,pp,nn,cn,ne,ce,np,cp⟩,pb,nb,cb⟩) Zr
   have H0:ZH (ZB w W0):=by rw[aa];exact ag.alloc ag.size _
   clear aa ad b0 b1 b2 b3 b4 b5 b6 b7 b8 b9;have V:ZH (∀W,ZB W0 W->ZL10 W g0 (Zi A) (.string O) (.string N) (.slice pq nq cq) (Zi K) (.string S) (.slice pn nn cn) (.slice pe ne ce) (.slice pp np cp) (.slice pb nb cb)):=fun W h=>zbp C0 h
   have ah:ZH (∀W,ZB W0 W->ZC 46 #[(.agg #[Zi A,.string O,.string N,.slice pq nq cq,Zi K,.string S,.slice pn nn cn,.slice pe ne ce,.slice pp np cp,.slice pb nb cb])] W (.bool z2)):=fun W h=>J0 U W (Zn H0 h)
   have ai:ZH (∀W,ZB W0 W->ZC 63 #[(.agg #[Zi A,.string O,.string N,.slice pq nq cq,Zi K,.string S,.slice pn nn cn,.slice pe ne ce,.slice pp np cp,.slice pb nb cb])] W (.bool z1)):=fun W _=>J0 M W
   clear U M;have U:=ah;have M:=ai;clear ah ai;have r:ZH (ZB W0 W0):=Zr;obtain⟨s,t,u,c3,c4,c5,G,I,J,L⟩:=J0 C0
   cases z1
   ·go_wp2_with (first|(go_at_call 63;refine(M _ r).mono ?_;clear M;rintro x wa ⟨rfl,j⟩;replace r:=J3 (Zn r j);clear j;clear s t u c3 c4 c5 G I J L;obtain⟨s,t,u,c3,c4,c5,G,I,J,L⟩:=V _ r)|(go_at_call 46;refine(U _ r).mono ?_;clear U;rintro x wb ⟨rfl,j⟩;replace r:=J3 (Zn r j);clear j;clear s t u c3 c4 c5 G I J L;obtain⟨s,t,u,c3,c4,c5,G,I,J,L⟩:=V _ r));go_ret;exact⟨by rw[J0 Y,J0 HD];rfl,Zn H0 r⟩
   ·cases z2
    ·go_wp2_with (first|(go_at_call 63;refine(M _ r).mono ?_;clear M;rintro x wa ⟨rfl,j⟩;replace r:=J3 (Zn r j);clear j;clear s t u c3 c4 c5 G I J L;obtain⟨s,t,u,c3,c4,c5,G,I,J,L⟩:=V _ r)|(go_at_call 46;refine(U _ r).mono ?_;clear U;rintro x wb ⟨rfl,j⟩;replace r:=J3 (Zn r j);clear j;clear s t u c3 c4 c5 G I J L;obtain⟨s,t,u,c3,c4,c5,G,I,J,L⟩:=V _ r));go_ret;exact⟨by rw[J0 Y,J0 HD];rfl,Zn H0 r⟩
    ·go_wp2_with (first|(go_at_call 63;refine(M _ r).mono ?_;clear M;rintro x wa ⟨rfl,j⟩;replace r:=J3 (Zn r j);clear j;clear s t u c3 c4 c5 G I J L;obtain⟨s,t,u,c3,c4,c5,G,I,J,L⟩:=V _ r)|(go_at_call 46;refine(U _ r).mono ?_;clear U;rintro x wb ⟨rfl,j⟩;replace r:=J3 (Zn r j);clear j;clear s t u c3 c4 c5 G I J L;obtain⟨s,t,u,c3,c4,c5,G,I,J,L⟩:=V _ r));go_roundw
     case rel=>exact⟨k+1,by go_num,by omega,J3 (by rw[J0 Y,J0 HD];rfl),Zn H0 r⟩
     case measure=>simp[intOf];omega
  ·go_wp2;go_ret;exact⟨by rw[J0 Y,Yg (by omega)];rfl,j⟩
structure P13 where
 pd:Zo
 nd:Nat
 cd:Nat
 pm:Zo
 nm:Nat
 cm:Nat
 pf:Zo
 nf:Nat
 cf:Nat
 M:C10
abbrev P13.val (x:P13):Value:=.agg #[.slice x.pd x.nd x.cd,.slice x.pm x.nm x.cm,.slice x.pf x.nf x.cf,Zi x.M.A,.string x.M.O,.string x.M.N,.slice x.M.pq x.M.nq x.M.cq,Zi x.M.T.K,.string x.M.T.S,.slice x.M.T.pn x.M.T.nn x.M.T.cn,.slice x.M.T.pe x.M.T.ne x.M.T.ce,.slice x.M.T.pp x.M.T.np x.M.T.cp,.slice x.M.pb x.M.nb x.M.cb]
def PrIs (W:Zw) (E D d m:Nat) (x:P13) (p:Pr E D d m):Prop:=
 DeRow W E (.slice x.pd x.nd x.cd) p.1/\CoRow W E D d m (.slice x.pm x.nm x.cm) p.2.1/\CoRow W E D d m (.slice x.pf x.nf x.cf) p.2.2.1/\CoIs W E D d m x.M p.2.2.2
theorem PrIs.below {w w':Zw} {E D d m:Nat} {x:P13} {p:Pr E D d m} (h:PrIs w E D d m x p) (c:ZB w w'):PrIs w' E D d m x p:=⟨h.1.below c,h.2.1.below c,h.2.2.1.below c,h.2.2.2.below c⟩
def PrFit (E D d m:Nat) (p:Pr E D d m):Prop:=
 p.1.length<=1000000/\(∀x∈p.1,x.2.1.length<=35184372088832/\za5 E [x.2.2])/\p.2.1.length<=1000000/\(∀c∈p.2.1,zjb E D d m c)/\p.2.2.1.length<=1000000/\(∀c∈p.2.2.1,zjb E D d m c)/\zjb E D d m p.2.2.2
abbrev prBox (x:P13):Obj:=.cells #[.slice x.pd x.nd x.cd,.slice x.pm x.nm x.cm,.slice x.pf x.nf x.cf,Zi x.M.A,.string x.M.O,.string x.M.N,.slice x.M.pq x.M.nq x.M.cq,Zi x.M.T.K,.string x.M.T.S,.slice x.M.T.pn x.M.T.nn x.M.T.cn,.slice x.M.T.pe x.M.T.ne x.M.T.ce,.slice x.M.T.pp x.M.T.np x.M.T.cp,.slice x.M.pb x.M.nb x.M.cb] 36
theorem zbj {x:P13} {w wr:Zw} (c:Below (w.alloc (prBox x)).heap.size (w.alloc (prBox x)) wr):ZL13 wr w.heap.size (.slice x.pd x.nd x.cd) (.slice x.pm x.nm x.cm) (.slice x.pf x.nf x.cf) (Zi x.M.A) (.string x.M.O) (.string x.M.N) (.slice x.M.pq x.M.nq x.M.cq) (Zi x.M.T.K) (.string x.M.T.S) (.slice x.M.T.pn x.M.T.nn x.M.T.cn) (.slice x.M.T.pe x.M.T.ne x.M.T.ce) (.slice x.M.T.pp x.M.T.np x.M.T.cp) (.slice x.M.pb x.M.nb x.M.cb):=by
 have h:∀j,wr.cell? ⟨w.heap.size,j,none⟩=(#[Value.slice x.pd x.nd x.cd,.slice x.pm x.nm x.cm,.slice x.pf x.nf x.cf,Zi x.M.A,.string x.M.O,.string x.M.N,.slice x.M.pq x.M.nq x.M.cq,Zi x.M.T.K,.string x.M.T.S,.slice x.M.T.pn x.M.T.nn x.M.T.cn,.slice x.M.T.pe x.M.T.ne x.M.T.ce,.slice x.M.T.pp x.M.T.np x.M.T.cp,.slice x.M.pb x.M.nb x.M.cb])[j]?:=fun j=>by
  rw[c.cell (p:=⟨w.heap.size,j,none⟩) (by simp),Ya _ _ _ _ rfl]
 exact⟨h 0,h 1,h 2,h 3,h 4,h 5,h 6,h 7,h 8,h 9,h 10,h 11,h 12⟩
theorem zc1 {A:Int} {O N S:Zy} {K:Int} {pd pm pf pq pn pe pp pb:Zo} {nd cd nm cm nf cf nq cq nn cn ne ce np cp nb cb g:Nat} {w wr:Zw} (j:ZL13 w g (.slice pd nd cd) (.slice pm nm cm) (.slice pf nf cf) (Zi A) (.string O) (.string N) (.slice pq nq cq) (Zi K) (.string S) (.slice pn nn cn) (.slice pe ne ce) (.slice pp np cp) (.slice pb nb cb)) (h:ZB w wr):ZL13 wr g (.slice pd nd cd) (.slice pm nm cm) (.slice pf nf cf) (Zi A) (.string O) (.string N) (.slice pq nq cq) (Zi K) (.string S) (.slice pn nn cn) (.slice pe ne ce) (.slice pp np cp) (.slice pb nb cb):=by
 obtain⟨c,r,s,c3,c4,c5,t,u,x,G,I,J,L⟩:=j;exact⟨(h.cell (p:=⟨g,_,none⟩) (J2 c)).trans c,(h.cell (p:=⟨g,_,none⟩) (J2 c)).trans r,(h.cell (p:=⟨g,_,none⟩) (J2 c)).trans s,(h.cell (p:=⟨g,_,none⟩) (J2 c)).trans c3,(h.cell (p:=⟨g,_,none⟩) (J2 c)).trans c4,(h.cell (p:=⟨g,_,none⟩) (J2 c)).trans c5,(h.cell (p:=⟨g,_,none⟩) (J2 c)).trans t,(h.cell (p:=⟨g,_,none⟩) (J2 c)).trans u,(h.cell (p:=⟨g,_,none⟩) (J2 c)).trans x,(h.cell (p:=⟨g,_,none⟩) (J2 c)).trans G,(h.cell (p:=⟨g,_,none⟩) (J2 c)).trans I,(h.cell (p:=⟨g,_,none⟩) (J2 c)).trans J,(h.cell (p:=⟨g,_,none⟩) (J2 c)).trans L⟩
theorem zk0 (E D d m:Nat) (x:P13) (p:Pr E D d m) (w:Zw) (hv:PrIs w E D d m x p) (hf:PrFit E D d m p) (ht:Tab w) (h5:4<=w.heap.size) :
  ZC 35 #[x.val] w (.bool (zb9 E D d m p)):=by
 obtain⟨pd,nd,cd,pm,nm,cm,pf,nf,cf,⟨A,O,N,pq,nq,cq,⟨K,S,pn,pe,pp,nn,cn,ne,ce,np,cp⟩,pb,nb,cb⟩⟩:=x;have HV:=J3 hv;have Y:=hv.2.2.2.2.2.2.1.len;have ah:=J3 Y;have KH:=J3 ht;obtain⟨f1,f2,f3,f4,f5,f6,f7⟩:=hf;clear hv ht Y;go_enter Tryz.func35,Tryz.ntmps35;go_upto_region 1 with fail
 obtain⟨W0,aa⟩:∃W:Zw,W=w.alloc (Obj.cells #[.slice pd nd cd,.slice pm nm cm,.slice pf nf cf,Zi A,.string O,.string N,.slice pq nq cq,Zi K,.string S,.slice pn nn cn,.slice pe ne ce,.slice pp np cp,.slice pb nb cb] 36):=⟨_,rfl⟩
 obtain⟨g0,ab⟩:∃g:Nat,g=w.heap.size:=⟨_,rfl⟩
 rw[<-aa,<-ab];have C0:ZH (ZL13 W0 g0 (.slice pd nd cd) (.slice pm nm cm) (.slice pf nf cf) (Zi A) (.string O) (.string N) (.slice pq nq cq) (Zi K) (.string S) (.slice pn nn cn) (.slice pe ne ce) (.slice pp np cp) (.slice pb nb cb)):=by
  rw[aa,ab];exact zbj (x:=⟨pd,nd,cd,pm,nm,cm,pf,nf,cf,⟨A,O,N,pq,nq,cq,⟨K,S,pn,pe,pp,nn,cn,ne,ce,np,cp⟩,pb,nb,cb⟩⟩) Zr
 have H0:ZH (ZB w W0):=by rw[aa];exact Za _ _
 clear aa ab;have j:∀W,ZB W0 W->PrIs W E D d m ⟨pd,nd,cd,pm,nm,cm,pf,nf,cf,⟨A,O,N,pq,nq,cq,⟨K,S,pn,pe,pp,nn,cn,ne,ce,np,cp⟩,pb,nb,cb⟩⟩ p/\Tab W/\4<=W.heap.size:=fun W h=>by
  have hu:=Zn H0 h;exact⟨HV.below hu,KH.below hu h5,by have:=hu.size;omega⟩
 obtain⟨z1,ac⟩:∃z,z=zc5 E p.1:=⟨_,rfl⟩
 obtain⟨z2,ad⟩:∃z,z=zca E D d m p.2.1:=⟨_,rfl⟩
 obtain⟨z3,ae⟩:∃z,z=zc9 E D d m p.2.2.1:=⟨_,rfl⟩
 obtain⟨z4,af⟩:∃z,z=zix (zcw p.2.2.2) (JV p.2.2.2) nq:=⟨_,rfl⟩
 obtain⟨z5,ag⟩:∃z,z=JD E D d m p.2.2.2:=⟨_,rfl⟩
 have RD:ZH (∀W,ZB W0 W->ZC 60 #[.slice pd nd cd] W (.bool z1)):=fun W h=>by rw[ac];exact rightDefs_any E _ _ W (j W h).1.1 f1 f2 (j W h).2.1 (j W h).2.2
 have RM:ZH (∀W,ZB W0 W->ZC 61 #[.slice pm nm cm,.func (.func 62) #[] #[]] W (.bool z2)):=fun W h=>by rw[ad];exact rightMs_any E D d m _ _ W (j W h).1.2.1 f3 f4 (j W h).2.1 (j W h).2.2
 have RF:ZH (∀W,ZB W0 W->ZC 61 #[.slice pf nf cf,.func (.func 63) #[] #[]] W (.bool z3)):=fun W h=>by rw[ae];exact rightFs_any E D d m _ _ W (j W h).1.2.2.1 f5 f6 (j W h).2.1 (j W h).2.2
 have CN:ZH (∀W,ZB W0 W->ZC 64 #[(.agg #[Zi A,.string O,.string N,.slice pq nq cq,Zi K,.string S,.slice pn nn cn,.slice pe ne ce,.slice pp np cp,.slice pb nb cb])] W (.bool z4)):=fun W h=>by rw[af];exact isMain_any ⟨A,O,N,pq,nq,cq,⟨K,S,pn,pe,pp,nn,cn,ne,ce,np,cp⟩,pb,nb,cb⟩ _ _ W (j W h).1.2.2.2.2.1 (j W h).1.2.2.2.2.2.1
 have RC:ZH (∀W,ZB W0 W->ZC 46 #[(.agg #[Zi A,.string O,.string N,.slice pq nq cq,Zi K,.string S,.slice pn nn cn,.slice pe ne ce,.slice pp np cp,.slice pb nb cb])] W (.bool z5)):=fun W h=>by rw[ag];exact zdv E D d m ⟨A,O,N,pq,nq,cq,⟨K,S,pn,pe,pp,nn,cn,ne,ce,np,cp⟩,pb,nb,cb⟩ _ W (j W h).1.2.2.2 f7 (j W h).2.1 (j W h).2.2
 have Z:ZH (∀W,ZB W0 W->ZL13 W g0 (.slice pd nd cd) (.slice pm nm cm) (.slice pf nf cf) (Zi A) (.string O) (.string N) (.slice pq nq cq) (Zi K) (.string S) (.slice pn nn cn) (.slice pe ne ce) (.slice pp np cp) (.slice pb nb cb)):=fun W h=>zc1 C0 h
 have HR:ZH (zb9 E D d m p=(z1&&z2&&z3&&z4&&z5)):=by
  show _=_;have Y:=J0 ah;dsimp only at Y;rw[ac,ad,ae,af,ag,Y];rfl
 have c:ZH (ZB W0 W0):=Zr;clear j HV ah KH f1 f2 f3 f4 f5 f6 f7 ac ad ae af ag;obtain⟨s,t,u,c3,c4,c5,G,I,J,L,M,U,V⟩:=J0 C0
 cases z1
 case' true=>
  cases z2
  case' true=>
   cases z3
   case' true=>cases z4
 all_goals
  go_wp2_with (first|(go_at_call 60;refine(RD _ c).mono ?_;clear RD;rintro x wa ⟨rfl,r⟩;replace c:=J3 (Zn c r);clear r;clear s t u c3 c4 c5 G I J L M U V;obtain⟨s,t,u,c3,c4,c5,G,I,J,L,M,U,V⟩:=Z _ c)|(go_at_call 61;refine(RM _ c).mono ?_;clear RM;rintro x wb ⟨rfl,r⟩;replace c:=J3 (Zn c r);clear r;clear s t u c3 c4 c5 G I J L M U V;obtain⟨s,t,u,c3,c4,c5,G,I,J,L,M,U,V⟩:=Z _ c)|(go_at_call 61;refine(RF _ c).mono ?_;clear RF;rintro x wc ⟨rfl,r⟩;replace c:=J3 (Zn c r);clear r;clear s t u c3 c4 c5 G I J L M U V;obtain⟨s,t,u,c3,c4,c5,G,I,J,L,M,U,V⟩:=Z _ c)|(go_at_call 64;refine(CN _ c).mono ?_;clear CN;rintro x wd ⟨rfl,r⟩;replace c:=J3 (Zn c r);clear r;clear s t u c3 c4 c5 G I J L M U V;obtain⟨s,t,u,c3,c4,c5,G,I,J,L,M,U,V⟩:=Z _ c)|(go_at_call 46;refine(RC _ c).mono ?_;clear RC;rintro x we ⟨rfl,r⟩;replace c:=J3 (Zn c r);clear r;clear s t u c3 c4 c5 G I J L M U V;obtain⟨s,t,u,c3,c4,c5,G,I,J,L,M,U,V⟩:=Z _ c));go_ret;exact⟨by rw[J0 HR];rfl,Zn H0 c⟩
abbrev cwBox (b:Nat):Obj:=.cells #[.pointer (Zs b 0)] 116
def PaPart (w0:Zw) (b:Nat) (T:TypeId) (pp:Zo) (k:Nat) (s:Bs) (tk:List Tok):Prop:=
 ∃(g o:Nat) (K:Int) (S:Zy) (c h j:Zo) (r t u x G c3:Nat),pp=some ⟨g,o,none⟩/\(∀W,ZB w0 W->W.cell? ⟨g,o+k*6,none⟩=some (.string ⟨s.toArray⟩)/\W.cell? ⟨g,o+k*6+1,none⟩=some (Zi K)/\W.cell? ⟨g,o+k*6+2,none⟩=some (.string S) /\
   W.cell? ⟨g,o+k*6+3,none⟩=some (.slice c r x)/\W.cell? ⟨g,o+k*6+4,none⟩=some (.slice h t G)/\W.cell? ⟨g,o+k*6+5,none⟩=some (.slice j u c3)) /\
   Puts w0 b T (fun _=>True) 50 #[.pointer (Zs b 0),.agg #[Zi K,.string S,.slice c r x,.slice h t G,.slice j u c3]] tk
theorem params_any (w0:Zw) (b:Nat) (T:TypeId) (pl:Zo) (q c:Nat) (hq:q<=1000000) (nm:Nat->Bs) (tk:Nat->List Tok) (G:∀k,k<q->PaPart w0 b T pl k (nm k) (tk k)) :
  Puts w0 b T (fun _=>True) 76 #[.pointer (Zs b 0),.slice pl q c] (zd3 q (fun k=>tN (nm k)::tk k)):=by
 intro Z w hw aa J _;obtain⟨L,j⟩:=boxes hw aa J 116 #[.slice pl q c] 26 (by decide) (by decide);have U:∀k:Nat,k<q->Puts w0 b T (fun V=>V.heap[w.heap.size]?=some (cwBox b)/\V.heap[w.heap.size+1]?=some (.cells #[.slice pl q c] 26)) 120 #[Zi k,.pointer (Zs w.heap.size 0),.pointer (Zs (w.heap.size+1) 0)] (tN (nm k)::tk k):=by
  intro k hk Z w1 u Y t r;obtain⟨g,o,K,S,p1,p2,p3,n1,n2,n3,c1,c2,c3,rfl,hc,wt⟩:=G k hk;have FF:ZH (∀W,ZB w0 W->(W.heap[w.heap.size]?=some (cwBox b)/\W.heap[w.heap.size+1]?=some (.cells #[.slice (Zs g o) q c] 26))->W.cell? ⟨w.heap.size,0,none⟩=some (.pointer (Zs b 0))/\W.cell? ⟨w.heap.size+1,0,none⟩=some (.slice (Zs g o) q c)/\W.cell? ⟨g,o+k*6,none⟩=some (.string ⟨(nm k).toArray⟩)/\W.cell? ⟨g,o+k*6+1,none⟩=some (Zi K)/\W.cell? ⟨g,o+k*6+2,none⟩=some (.string S) /\
   W.cell? ⟨g,o+k*6+3,none⟩=some (.slice p1 n1 c1)/\W.cell? ⟨g,o+k*6+4,none⟩=some (.slice p2 n2 c2)/\W.cell? ⟨g,o+k*6+5,none⟩=some (.slice p3 n3 c3)):=fun W hb hI=>⟨by rw[Y0 hI.1];rfl,by rw[Y0 hI.2];rfl,hc W hb⟩
  obtain⟨d0,d1,m0,m1,m2,m3,m4,m5⟩:=FF w1 t r;have ag:(k:Int)<(q:Int):=by omega
  obtain⟨s,hs⟩:=Ze (nm k)
  rw[<-hs]at FF m0 ⊢;have ab:=J3 (Ok.of (I:=fun V=>V.heap[w.heap.size]?=some (cwBox b)/\V.heap[w.heap.size+1]?=some (.cells #[.slice (Zs g o) q c] 26)) u Y t r);have M:=J3 j;have PN:=J3 (zct w0 b T s);have PT:=J3 wt;clear r L j G hw J u t wt hc hs;go_enter Tryz.func120,Tryz.ntmps120;go_wp2_with fail
  go_region_with (go_at_call 75;refine(PN.ok (fun _ _=>trivial) M (ab.drew M)).mono ?_;clear PN;rintro x wx ⟨rfl,ok⟩;clear d0 d1 m0 m1 m2 m3 m4 m5;obtain⟨d0,d1,m0,m1,m2,m3,m4,m5⟩:=FF wx ok.2.2.1 ok.2.2.2.2.2;have ac:=J3 ok;clear ok ab)
  all_goals
   go_wp2_with fail
   go_region_with (go_at_call 50;refine(PT.ok (fun _ _=>trivial) M (ac.drew M)).mono ?_;clear PT;rintro x wy ⟨rfl,ok⟩)
   all_goals
    go_wp2;exact Yd (v:=.tuple #[]) (by simp[results,Tryz.results120,go_sem]) rfl (ok.fin (by simp only[Jq,JE]))
 have I1:Puts w0 b T (fun V=>V.heap[w.heap.size]?=some (cwBox b)/\V.heap[w.heap.size+1]?=some (.cells #[.slice pl q c] 26)) 118 #[.pointer (Zs w.heap.size 0),.pointer (Zs (w.heap.size+1) 0)] ((List.range q).flatMap (zar fun k=>tN (nm k)::tk k)):=by
  intro Z w1 u Y t r;have d0:w1.cell? ⟨w.heap.size,0,none⟩=some (.pointer (Zs b 0)):=by rw[Y0 r.1];rfl
  have d1:w1.cell? ⟨w.heap.size+1,0,none⟩=some (.slice pl q c):=by rw[Y0 r.2];rfl
  have WT:=J3 ((zgj w0 b T _ j _ (fun _ _=>by kernel_rfl) _ _ q hq _ U).drew u Y t (j.drew r));clear r L j G hw J u t U;go_enter Tryz.func118,Tryz.ntmps118;go_wp2
  go_region_with (go_at_call 119;refine WT.mono ?_;clear WT;rintro x wb ⟨rfl,ad,ae,af⟩)
  all_goals
   go_wp2;exact Yd (v:=.tuple #[]) (by simp[results,Tryz.results118,go_sem]) rfl ⟨rfl,ad,ae,af⟩
 have WD:=J3 ((zcc w0 b T _ j _ (fun _ _=>by kernel_rfl) _ _ [40] [41] _ I1).ok (fun _ h=>h) j L);clear L j hw J aa G U I1;go_enter Tryz.func76,Tryz.ntmps76;go_wp2_with (go_at_call 81;refine WD.mono ?_;clear WD;rintro x wa ⟨rfl,ok⟩);exact Yd (v:=.tuple #[]) (by simp[results,Tryz.results76,go_sem]) rfl (ok.fin rfl)
end Go.Proofs.YtdcbglnhhbmpgaaGreatDoor
