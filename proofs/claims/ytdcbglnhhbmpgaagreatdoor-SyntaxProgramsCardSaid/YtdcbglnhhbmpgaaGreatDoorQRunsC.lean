import Derived.Test.YtdcbglnhhbmpgaaGreatDoorQExF
set_option maxHeartbeats 4000000
set_option maxRecDepth 100000
namespace Go.Proofs.YtdcbglnhhbmpgaaGreatDoor
open Go Go.RowKit Lx
abbrev xBoxV (A K N:Int) (S:Zy) (v1 v2 v3:Value):Obj:=.cells #[Zi A,Zi K,Zi N,.string S,v1,v2,v3] 62
theorem ty_any (k:Int) (p:Zo) (n c:Nat) (w:Zw) :
  ZC 17 #[Zi k,.slice p n c] w (.agg #[Zi k,.string ⟨#[]⟩,Zz,Zz,.slice p n c]):=by
 go_enter Tryz.func17,Tryz.ntmps17;go_wp2;exact Yi (v:=.agg #[Zi k,.string ⟨#[]⟩,Zz,Zz,.slice p n c]) (by simp[results,Tryz.results17,go_sem]) rfl ⟨rfl,Za _ _⟩
theorem zla (s:Zy) (w:Zw) :
  ZC 18 #[.string s] w (.agg #[Zi 4,.string s,Zz,Zz,Zz]):=by
 go_enter Tryz.func18,Tryz.ntmps18;go_wp2;exact Yi (v:=.agg #[Zi 4,.string s,Zz,Zz,Zz]) (by simp[results,Tryz.results18,go_sem]) rfl ⟨rfl,Za _ _⟩
theorem zeq (k:Int) (w:Zw) :
  ZC 27 #[Zi k] w (.agg #[Zi 0,Zi 1,Zi k,.string ⟨#[]⟩,Zz,Zz,Zz]):=by
 go_enter Tryz.func27,Tryz.ntmps27;go_wp2;exact Yi (v:=.agg #[Zi 0,Zi 1,Zi k,.string ⟨#[]⟩,Zz,Zz,Zz]) (by simp[results,Tryz.results27,go_sem]) rfl ⟨rfl,Za _ _⟩
theorem zeo (s:Zy) (w:Zw) :
  ZC 24 #[.string s] w (.agg #[Zi 0,Zi 4,Zi 0,.string s,Zz,Zz,Zz]):=by
 go_enter Tryz.func24,Tryz.ntmps24;go_wp2;exact Yi (v:=.agg #[Zi 0,Zi 4,Zi 0,.string s,Zz,Zz,Zz]) (by simp[results,Tryz.results24,go_sem]) rfl ⟨rfl,Za _ _⟩
theorem told_yes (D d:Nat) (A K N:Int) (S want:Bs) (pt pn pp:Zo) (ct cn cp:Nat) (c:List (Ty D)) (ns:List Bs) (xs:List (Ex D d)) (w:Zw) (r:TyRow w D (.slice pt c.length ct) c) (s:SRow w (.slice pn ns.length cn) ns) (t:ExRow w D d (.slice pp xs.length cp) xs) (rc:ExCap w D d (.slice pp xs.length cp) xs)
  (u:zh7 D d (A,K,N,S,c,ns,xs)) (G:ExFits D d xs) (I:Tab w) (L:4<=w.heap.size) (h:zcn D d (A,K,N,S,c,ns,xs)=.inr want) :
  ZC 25 #[.agg #[Zi A,Zi K,Zi N,.string ⟨S.toArray⟩,.slice pt c.length ct,.slice pn ns.length cn,.slice pp xs.length cp],.string ⟨want.toArray⟩] w (.bool true):=by
 obtain⟨O,J⟩:=Ze (xBox A K N ⟨S.toArray⟩ pt pn pp c.length ns.length xs.length ct cn cp:Obj)
 have g:ZB w (w.alloc O):=(Yu _ _).alloc (Y5 _) O;have j:ZH (Zg 28 #[.agg #[Zi A,Zi K,Zi N,.string ⟨S.toArray⟩,.slice pt c.length ct,.slice pn ns.length cn,.slice pp xs.length cp]] (w.alloc O) fun e w'=>e=.returned (.tuple #[.string ⟨want.toArray⟩,Zi 0])/\ZB w w'):=
  (Expr_any D d A K N S pt pn pp ct cn cp c ns xs (w.alloc O) (TyRow.below g D r) (s.below g) (ExRow.below g d t) (ExCap.below g d rc) u G (I.below g L) (by simp;omega)).mono fun e w' ⟨he,M⟩=>⟨by rw[he,h];rfl,g.trans (M.mono (by simp))⟩
 rw[J]at j;clear J g r s t rc u G I h;go_enter Tryz.func25,Tryz.ntmps25;go_wp2_with (go_at_call 28;refine j.mono ?_;clear j;rintro x w1 ⟨rfl,U⟩);go_ret;exact⟨by simp,U⟩
theorem zf9 (k:Int) (A K N c h j:Int) (S S':Zy) (v1 v2 v3 r s t:Value) (w:Zw) :
  Zg 26 #[Zi k,.agg #[Zi A,Zi K,Zi N,.string S,v1,v2,v3],.agg #[Zi c,Zi h,Zi j,.string S',r,s,t]] w fun e w'=>∃g,e=.returned (.agg #[Zi 0,Zi k,Zi 0,.string ⟨#[]⟩,Zz,Zz,.slice (Zs g 0) 2 2])/\w.heap.size<=g/\w'.heap[g]?=some (.cells #[Zi A,Zi K,Zi N,.string S,v1,v2,v3,Zi c,Zi h,Zi j,.string S',r,s,t] 62)/\ZB w w':=by
 go_enter Tryz.func26,Tryz.ntmps26;go_wp2;refine Yi (v:=.agg #[Zi 0,Zi k,Zi 0,.string ⟨#[]⟩,Zz,Zz,.slice (Zs (w.heap.size+1+1+1) 0) 2 2]) (by simp[results,Tryz.results26,go_sem]) rfl ⟨w.heap.size+1+1+1,rfl,by omega,?_,(((Za _ _).alloc (by simp) _).alloc (by simp;omega) _).alloc (by simp;omega) _⟩;have:=Jm (((w.alloc (xBoxV A K N S v1 v2 v3)).alloc (xBoxV c h j S' r s t)).alloc (xBoxV 0 k 0 ⟨#[]⟩ (Zz) (Zz) (.slice (Zs (w.heap.size+1+1+1) 0) 2 2))) (.cells #[Zi A,Zi K,Zi N,.string S,v1,v2,v3,Zi c,Zi h,Zi j,.string S',r,s,t] 62);simpa[xBoxV]using this
def XRow (W:Zw) (d:Nat) (v:Value) (xs:List (Ex 0 d)):Prop:=ExRow W 0 d v xs/\ExCap W 0 d v xs
theorem XRow.nil (W:Zw):∀d,XRow W d (Zz) []
 | 0=>⟨⟨none,0,rfl⟩,trivial⟩
 | _+1=>⟨⟨none,0,rfl,fun j x h=>by simp at h⟩,⟨none,0,rfl,by simp,fun j x h=>by simp at h⟩⟩
theorem TyRow.nil (W:Zw):∀d,TyRow W d (Zz) []
 | 0=>⟨none,0,rfl⟩
 | _+1=>⟨none,0,rfl,fun j x h=>by simp at h⟩
theorem Qa (W:Zw):SRow W (Zz) []:=⟨none,0,rfl,fun j x h=>by simp at h⟩
theorem BRow.nil (W:Zw):BRow W (Zz) []:=⟨none,0,rfl,fun j x h=>by simp at h⟩
theorem XRow.one {W:Zw} {g d:Nat} {A K N:Int} {S:Bs} {v:Value} {xs:List (Ex 0 d)} (s:W.heap[g]?=some (.cells #[Zi A,Zi K,Zi N,.string ⟨S.toArray⟩,Zz,Zz,v] 62)) (h:XRow W d v xs) :
  XRow W (d+1) (.slice (Zs g 0) 1 1) [(A,K,N,S,[],[],xs)]:=by
 have r:=Y0 s;refine⟨⟨_,1,rfl,fun j x c=>?_⟩,⟨_,1,rfl,Y5 _,fun j x c=>?_⟩⟩
 ·match j,c with
  | 0,c=>
   obtain rfl:=Y1 c;exact⟨g,0,_,_,_,rfl,r 0,r 1,r 2,r 3,r 4,r 5,r 6,TyRow.nil W 0,Qa W,h.1⟩
  | j+1,c=>cases c
 ·match j,c with
  | 0,c=>
   obtain rfl:=Y1 c;exact⟨g,0,_,rfl,r 6,h.2⟩
  | j+1,c=>cases c
theorem XRow.two {W:Zw} {g d:Nat} {A K N s t u:Int} {S S':Bs} {v G:Value} {xs I:List (Ex 0 d)} (L:W.heap[g]?=some (.cells #[Zi A,Zi K,Zi N,.string ⟨S.toArray⟩,Zz,Zz,v,Zi s,Zi t,Zi u,.string ⟨S'.toArray⟩,Zz,Zz,G] 62)) (h:XRow W d v xs) (J:XRow W d G I) :
  XRow W (d+1) (.slice (Zs g 0) 2 2) [(A,K,N,S,[],[],xs),(s,t,u,S',[],[],I)]:=by
 have c:=Y0 L;refine⟨⟨_,2,rfl,fun j x r=>?_⟩,⟨_,2,rfl,Y5 _,fun j x r=>?_⟩⟩
 ·match j,r with
  | 0,r=>
   obtain rfl:=Y1 r;exact⟨g,0,_,_,_,rfl,c 0,c 1,c 2,c 3,c 4,c 5,c 6,TyRow.nil W 0,Qa W,h.1⟩
  | 1,r=>
   obtain rfl:=Y1 r;exact⟨g,0,_,_,_,rfl,c 7,c 8,c 9,c 10,c 11,c 12,c 13,TyRow.nil W 0,Qa W,J.1⟩
  | j+2,r=>cases r
 ·match j,r with
  | 0,r=>
   obtain rfl:=Y1 r;exact⟨g,0,_,rfl,c 6,h.2⟩
  | 1,r=>
   obtain rfl:=Y1 r;exact⟨g,0,_,rfl,c 13,J.2⟩
  | j+2,r=>cases r
theorem TyRow.one {W:Zw} {g d:Nat} {K:Int} {S:Bs} {vn ve v:Value} {ns:List Bs} {es:List Bool} {s:List (Ty d)} (t:W.heap[g]?=some (.cells #[Zi K,.string ⟨S.toArray⟩,vn,ve,v] 31)) (u:SRow W vn ns) (he:BRow W ve es) (h:TyRow W d v s) :
  TyRow W (d+1) (.slice (Zs g 0) 1 1) [(K,S,ns,es,s)]:=by
 have c:=Y0 t;refine⟨_,1,rfl,fun j x r=>?_⟩
 match j,r with
 | 0,r=>
  obtain rfl:=Y1 r;exact⟨g,0,_,_,_,rfl,c 0,c 1,c 2,c 3,c 4,u,he,h⟩
 | j+1,r=>cases r
theorem TyRow.two {W:Zw} {g d:Nat} {K s:Int} {S S':Bs} {vn ve v t u G:Value} {ns I:List Bs} {es J:List Bool} {L M:List (Ty d)} (U:W.heap[g]?=some (.cells #[Zi K,.string ⟨S.toArray⟩,vn,ve,v,Zi s,.string ⟨S'.toArray⟩,t,u,G] 31)) (V:SRow W vn ns) (he:BRow W ve es) (h:TyRow W d v L) (Y:SRow W t I) (Z:BRow W u J) (h':TyRow W d G M) :
  TyRow W (d+1) (.slice (Zs g 0) 2 2) [(K,S,ns,es,L),(s,S',I,J,M)]:=by
 have c:=Y0 U;refine⟨_,2,rfl,fun j x r=>?_⟩
 match j,r with
 | 0,r=>
  obtain rfl:=Y1 r;exact⟨g,0,_,_,_,rfl,c 0,c 1,c 2,c 3,c 4,V,he,h⟩
 | 1,r=>
  obtain rfl:=Y1 r;exact⟨g,0,_,_,_,rfl,c 5,c 6,c 7,c 8,c 9,Y,Z,h'⟩
 | j+2,r=>cases r
-- the trees of chapter 2's runs,and the answers
def tInt (d:Nat):Ty (d+1):=(1,[],[],[],[])
def tB (d:Nat):Ty (d+1):=(4,[66],[],[],[])
def tRec (ns:List Bs):Ty 2:=(6,[],ns,[false,true],[tInt 0,tB 0])
def tP:Ty 3:=(5,[],[],[],[tRec [[97],[98]]])
def tF:Ty 2:=(7,[],[],[],[tInt 0,tB 0])
def tI:Ty 3:=(8,[],[[97]],[],[tF])
theorem ans_p:zjs 2 tP=.inr [42,32,123,32,97,32,105,110,116,32,59,32,101,109,98,101,100,32,98,32,66,32,59,32,125]:=by decide +kernel
theorem ans_i:zjs 2 tI=.inr [105,110,116,101,114,102,97,99,101,32,123,32,97,32,40,32,105,110,116,32,41,32,66,32,59,32,125]:=by decide +kernel
theorem ans_twice:zjs 1 (tRec [[97],[97]])=.inl 1:=by decide +kernel
theorem ans_small:zjs 0 (4,[97],[],[],[])=.inl 1:=by decide +kernel
theorem zce (d:Nat) (t:Ty (d+1)) (r:List (Ty (d+1))):nodes (d+1) (t::r)=(if t.1=4 then 0 else 1)+nodes d t.2.2.2.2+nodes (d+1) r:=by rw[nodes]
theorem ze7:∀d,nodes d []=0
 | 0=>by rw[nodes]
 | _+1=>by rw[nodes]
theorem zid (d:Nat) (t:Ty (d+1)) (r:List (Ty (d+1))):deep (d+1) (t::r)=max (1+deep d t.2.2.2.2) (deep (d+1) r):=by rw[deep]
theorem zkm:∀d,deep d []=0
 | 0=>by rw[deep]
 | _+1=>by rw[deep]
theorem pInt:(tInt 0).2.2.2.2=[]:=rfl
theorem pB:(tB 0).2.2.2.2=[]:=rfl
theorem pR (ns:List Bs):(tRec ns).2.2.2.2=[tInt 0,tB 0]:=rfl
theorem pF:tF.2.2.2.2=[tInt 0,tB 0]:=rfl
theorem pP:tP.2.2.2.2=[tRec [[97],[98]]]:=rfl
theorem pI:tI.2.2.2.2=[tF]:=rfl
theorem nodes_1:nodes 1 [tInt 0,tB 0]=1:=by rw[zce,zce,pInt,pB,ze7,ze7];rfl
theorem nodes_p:nodes 3 [tP]=3:=by rw[zce,pP,zce,pR,nodes_1,ze7,ze7];rfl
theorem nodes_i:nodes 3 [tI]=3:=by rw[zce,pI,zce,pF,nodes_1,ze7,ze7];rfl
theorem nodes_pi:nodes 3 [tP,tI]=6:=by rw[zce,nodes_i,pP,zce,pR,nodes_1,ze7];rfl
theorem deep_p:deep 3 [tP]=3:=by rw[zid,pP,zid,pR,zid,zid,pInt,pB,zkm,zkm,zkm,zkm];rfl
theorem names_p:zci 3 [] [tP]=[[66]]:=by decide +kernel
def xN1 (d:Nat) (n:Int):Ex 0 (d+1):=(0,1,n,[],[],[],[])
def xV (d:Nat) (s:Bs):Ex 0 (d+1):=(0,4,0,s,[],[],[])
def zkj (d:Nat) (k:Int) (x y:Ex 0 d):Ex 0 (d+1):=(0,k,0,[],[],[],[x,y])
def xField (d:Nat):Ex 0 (d+2):=(0,9,0,[97],[],[],[xV d [120]])
theorem ans_1:zcn 0 2 (zkj 2 15 (zkj 1 16 (xN1 0 1) (xN1 0 2)) (xN1 1 3))=.inr [40,32,49,32,43,32,50,32,41,32,42,32,51]:=by decide +kernel
theorem ans_2:zcn 0 2 (zkj 2 16 (xN1 1 1) (zkj 1 15 (xN1 0 2) (xN1 0 3)))=.inr [49,32,43,32,50,32,42,32,51]:=by decide +kernel
theorem ans_3:zcn 0 2 (zkj 2 17 (xN1 1 1) (zkj 1 17 (xN1 0 2) (xN1 0 3)))=.inr [49,32,45,32,40,32,50,32,45,32,51,32,41]:=by decide +kernel
theorem ans_4:zcn 0 2 (0,11,0,[],[],[],[xField 0])=.inr [40,32,120,32,46,32,97,32,41,32,40,32,41]:=by decide +kernel
theorem ans_5:zcn 0 1 (0,10,0,[97],[],[],[xV 0 [120]])=.inr [120,32,46,32,97,32,40,32,41]:=by decide +kernel
theorem ans_6:zcn 0 2 (0,14,0,[],[],[],[zkj 1 18 (xV 0 [120]) (xV 0 [121])])=.inr [110,111,116,32,40,32,120,32,61,61,32,121,32,41]:=by decide +kernel
theorem ans_7:zcn 0 2 (zkj 2 18 (zkj 1 18 (xV 0 [120]) (xV 0 [121])) (xV 1 [122]))=.inr [40,32,120,32,61,61,32,121,32,41,32,61,61,32,122]:=by decide +kernel
theorem ans_8:zcn 0 0 (xN1 0 (-1))=.inl 1:=by decide +kernel
theorem rightStmts_nil (w:Zw):Zg 54 #[Zz,Zi 64] w fun e w'=>e=.returned (.bool true)/\w'=w:=by
 go_enter Tryz.func54,Tryz.ntmps54;go_wp2
 go_loopw [9] (fun i wr=>i=Zi 0/\wr=w) (fun _ _=>0)
 case atStart=>exact⟨rfl,rfl⟩
 case round=>
  obtain⟨rfl,rfl⟩:=hrel;go_wp2;go_ret;exact⟨rfl,rfl⟩
theorem writeStmts_nil (v:Value) (w:Zw):Zg 55 #[v,Zz] w fun e w'=>e=.returned (.tuple #[])/\w'=w:=by
 go_enter Tryz.func55,Tryz.ntmps55;go_wp2
 go_loopw [8] (fun i wr=>i=Zi 0/\wr=w) (fun _ _=>0)
 case atStart=>exact⟨rfl,rfl⟩
 case round=>
  obtain⟨rfl,rfl⟩:=hrel;go_wp2;exact Yd (v:=.tuple #[]) (by simp[results,Tryz.results55,go_sem]) rfl ⟨rfl,rfl⟩
theorem Stmts_nil (w:Zw) (g:Tab w) (t:4<=w.heap.size):ZC 29 #[Zz] w (.tuple #[.string ⟨#[]⟩,Zi 0]):=by
 have c:ZB w (w.alloc (.cells #[Zz] 82)):=Za _ _;have j:ZH (Zg 37 #[.pointer (Zs w.heap.size 0)] (w.alloc (.cells #[Zz] 82)) fun e w'=>e=.returned (.tuple #[.string ⟨#[]⟩,Zi 0])/\ZB w w'):=
  (zih w.heap.size w.heap.size 82 [] _ (WrAt.new w _ (by decide)) (by simp) Ji (g.below c t) (by simp;omega)).mono fun e w' ⟨h,u⟩=>⟨by rw[h];rfl,c.trans (u.mono (by simp))⟩
 have r:=J3 (rightStmts_nil w);have s:=J3 (fun v W=>writeStmts_nil v W);clear c g;go_enter Tryz.func29,Tryz.ntmps29;go_wp2_with (first
  | (go_at_call 54;refine r.mono ?_;clear r;rintro x w1 ⟨rfl,rfl⟩)
  | (go_at_call 55;refine(s _ _).mono ?_;clear s;rintro x I ⟨rfl,rfl⟩)
  | (go_at_call 37;refine j.mono ?_;clear j;rintro x J ⟨rfl,G⟩))
 go_ret2;exact⟨rfl,G⟩
theorem al1 (w:Zw) (O:Obj):ZB w (w.alloc O):=Za _ _
theorem al2 (w:Zw) (O P:Obj):ZB w ((w.alloc O).alloc P):=(al1 w O).alloc (by simp) _
theorem al3 (w:Zw) (O P Q:Obj):ZB w (((w.alloc O).alloc P).alloc Q):=(al2 w O P).alloc (by simp;omega) _
theorem hp1 (w:Zw) (O:Obj):(w.alloc O).heap[w.heap.size]?=some O:=Jm w O
theorem hp2a (w:Zw) (O P:Obj):((w.alloc O).alloc P).heap[w.heap.size]?=some O:=(((al1 (w.alloc O) P).block _ (by simp)).trans (hp1 w O))
theorem hp2b (w:Zw) (O P:Obj):((w.alloc O).alloc P).heap[w.heap.size+1]?=some P:=by simpa using Jm (w.alloc O) P
theorem hp3a (w:Zw) (O P Q:Obj):(((w.alloc O).alloc P).alloc Q).heap[w.heap.size]?=some O:=(((al1 ((w.alloc O).alloc P) Q).block _ (by simp;omega)).trans (hp2a w O P))
theorem hp3b (w:Zw) (O P Q:Obj):(((w.alloc O).alloc P).alloc Q).heap[w.heap.size+1]?=some P:=(((al1 ((w.alloc O).alloc P) Q).block _ (by simp)).trans (hp2b w O P))
theorem hp3c (w:Zw) (O P Q:Obj):(((w.alloc O).alloc P).alloc Q).heap[w.heap.size+1+1]?=some Q:=by simpa using Jm ((w.alloc O).alloc P) Q
theorem srow1 {W:Zw} {g:Nat} {s:Bs} {t:TypeId} (h:W.heap[g]?=some (.cells #[.string ⟨s.toArray⟩] t)):SRow W (.slice (Zs g 0) 1 1) [s]:=
 ⟨_,1,rfl,fun j x c=>by
  match j,c with
  | 0,c=>obtain rfl:=Y1 c;exact⟨g,0,rfl,Y0 h 0⟩
  | j+1,c=>cases c⟩
theorem srow2 {W:Zw} {g:Nat} {s u:Bs} {t:TypeId} (h:W.heap[g]?=some (.cells #[.string ⟨s.toArray⟩,.string ⟨u.toArray⟩] t)):SRow W (.slice (Zs g 0) 2 2) [s,u]:=
 ⟨_,2,rfl,fun j x c=>by
  match j,c with
  | 0,c=>obtain rfl:=Y1 c;exact⟨g,0,rfl,Y0 h 0⟩
  | 1,c=>obtain rfl:=Y1 c;exact⟨g,0,rfl,Y0 h 1⟩
  | j+2,c=>cases c⟩
theorem brow2 {W:Zw} {g:Nat} {s u:Bool} {t:TypeId} (h:W.heap[g]?=some (.cells #[.bool s,.bool u] t)):BRow W (.slice (Zs g 0) 2 2) [s,u]:=
 ⟨_,2,rfl,fun j x c=>by
  match j,c with
  | 0,c=>obtain rfl:=Y1 c;exact⟨g,0,rfl,Y0 h 0⟩
  | 1,c=>obtain rfl:=Y1 c;exact⟨g,0,rfl,Y0 h 1⟩
  | j+2,c=>cases c⟩
theorem fit_int:zht 0 (tInt 0)/\za5 0 (tInt 0).2.2.2.2:=⟨⟨by decide,by decide,(fun _ c=>nomatch c),by decide,by decide⟩,trivial⟩
theorem fit_B:zht 0 (tB 0)/\za5 0 (tB 0).2.2.2.2:=⟨⟨by decide,by decide,(fun _ c=>nomatch c),by decide,by decide⟩,trivial⟩
theorem zge {d:Nat} {t:Ty (d+1)} {c:List (Ty (d+1))} (h:zht d t/\za5 d t.2.2.2.2) (k:za5 (d+1) c) (g:c.length<10):za5 (d+1) (t::c):=
 ⟨by simp;omega,fun u hu=>by
  rcases Xj.1 hu with rfl|hu
  ·exact h
  ·exact k.2 u hu⟩
theorem zm4:∀d,za5 d []
 | 0=>trivial
 | _+1=>⟨Xr _,(fun _ c=>nomatch c)⟩
theorem fits_two:za5 1 [tInt 0,tB 0]:=zge fit_int (zge fit_B (zm4 1) (by decide)) (by decide)
theorem small_names:∀s∈([[97],[98]]:List Bs),s.length<=35184372088832:=fun s c=>by
 simp at c;rcases c with rfl|rfl <;> decide
theorem small_names':∀s∈([[97],[97]]:List Bs),s.length<=35184372088832:=fun s c=>by
 simp at c;subst c;decide
theorem small_one:∀s∈([[97]]:List Bs),s.length<=35184372088832:=fun s c=>by
 simp at c;subst c;decide
theorem fit_rec:zht 1 (tRec [[97],[98]])/\za5 1 (tRec [[97],[98]]).2.2.2.2:=⟨⟨by decide,by decide,small_names,by decide,by decide⟩,fits_two⟩
theorem fit_rec':zht 1 (tRec [[97],[97]])/\za5 1 (tRec [[97],[97]]).2.2.2.2:=⟨⟨by decide,by decide,small_names',by decide,by decide⟩,fits_two⟩
theorem fit_F:zht 1 tF/\za5 1 tF.2.2.2.2:=⟨⟨by decide,by decide,(fun _ c=>nomatch c),by decide,by decide⟩,fits_two⟩
theorem fit_P:zht 2 tP/\za5 2 tP.2.2.2.2:=⟨⟨by decide,by decide,(fun _ c=>nomatch c),by decide,by decide⟩,zge fit_rec (zm4 2) (by decide)⟩
theorem fit_I:zht 2 tI/\za5 2 tI.2.2.2.2:=⟨⟨by decide,by decide,small_one,by decide,by decide⟩,zge fit_F (zm4 2) (by decide)⟩
def KnowsP (g:Nat) (W:Zw):Prop:=TyRow W 2 (.slice (Zs g 0) 1 1) [tRec [[97],[98]]]
def KnowsI (g h:Nat) (W:Zw):Prop:=TyRow W 2 (.slice (Zs g 0) 1 1) [tF]/\SRow W (.slice (Zs h 0) 1 1) [[97]]
theorem KnowsP.below {g:Nat} {w w':Zw} (h:KnowsP g w) (c:ZB w w'):KnowsP g w':=TyRow.below c 2 h
theorem KnowsI.below {g k:Nat} {w w':Zw} (h:KnowsI g k w) (c:ZB w w'):KnowsI g k w':=⟨TyRow.below c 2 h.1,h.2.below c⟩
theorem type_p {g:Nat} {W:Zw} (h:KnowsP g W) (c:Tab W) (j:4<=W.heap.size):ZC 19 #[.agg #[Zi 5,.string ⟨#[]⟩,Zz,Zz,.slice (Zs g 0) 1 1]] W (.tuple #[.string ⟨#[42,32,123,32,97,32,105,110,116,32,59,32,101,109,98,101,100,32,98,32,66,32,59,32,125]⟩,Zi 0]):=
 (zk9 2 _ tP W ⟨none,none,_,0,0,1,rfl,Qa W,BRow.nil W,h⟩ fit_P.1 fit_P.2 c j).mono fun e w' ⟨he,r⟩=>⟨by rw[he,ans_p];rfl,r⟩
theorem type_i {g k:Nat} {W:Zw} (h:KnowsI g k W) (c:Tab W) (j:4<=W.heap.size):ZC 19 #[.agg #[Zi 8,.string ⟨#[]⟩,.slice (Zs k 0) 1 1,Zz,.slice (Zs g 0) 1 1]] W (.tuple #[.string ⟨#[105,110,116,101,114,102,97,99,101,32,123,32,97,32,40,32,105,110,116,32,41,32,66,32,59,32,125]⟩,Zi 0]):=
 (zk9 2 _ tI W ⟨_,none,_,1,0,1,rfl,h.2,BRow.nil W,h.1⟩ fit_I.1 fit_I.2 c j).mono fun e w' ⟨he,r⟩=>⟨by rw[he,ans_i];rfl,r⟩
theorem type_small (W:Zw) (c:Tab W) (g:4<=W.heap.size):ZC 19 #[.agg #[Zi 4,.string ⟨#[97]⟩,Zz,Zz,Zz]] W (.tuple #[.string ⟨#[]⟩,Zi 1]):=
 (zk9 0 _ (4,[97],[],[],[]) W ⟨none,none,none,0,0,0,rfl,Qa W,BRow.nil W,TyRow.nil W 0⟩ ⟨by decide,by decide,(fun _ h=>nomatch h),by decide,by decide⟩ trivial c g).mono fun e w' ⟨he,j⟩=>⟨by rw[he,ans_small];rfl,j⟩
theorem type_twice {g k l:Nat} {W:Zw} (c:SRow W (.slice (Zs k 0) 2 2) [[97],[97]]) (h:BRow W (.slice (Zs l 0) 2 2) [false,true]) (j:TyRow W 1 (.slice (Zs g 0) 2 2) [tInt 0,tB 0]) (r:Tab W) (s:4<=W.heap.size):ZC 19 #[.agg #[Zi 6,.string ⟨#[]⟩,.slice (Zs k 0) 2 2,.slice (Zs l 0) 2 2,.slice (Zs g 0) 2 2]] W (.tuple #[.string ⟨#[]⟩,Zi 1]):=
 (zk9 1 _ (tRec [[97],[97]]) W ⟨_,_,_,2,2,2,rfl,c,h,j⟩ fit_rec'.1 fit_rec'.2 r s).mono fun e w' ⟨he,t⟩=>⟨by rw[he,ans_twice];rfl,t⟩
theorem row_p {g k:Nat} {W:Zw} (h:KnowsP g W) (c:W.heap[k]?=some (.cells #[Zi 5,.string ⟨#[]⟩,Zz,Zz,.slice (Zs g 0) 1 1] 31)):TyRow W 3 (.slice (Zs k 0) 1 1) [tP]:=TyRow.one c (Qa W) (BRow.nil W) h
theorem row_i {g n k:Nat} {W:Zw} (h:KnowsI g n W) (c:W.heap[k]?=some (.cells #[Zi 8,.string ⟨#[]⟩,.slice (Zs n 0) 1 1,Zz,.slice (Zs g 0) 1 1] 31)):TyRow W 3 (.slice (Zs k 0) 1 1) [tI]:=TyRow.one c h.2 (BRow.nil W) h.1
theorem row_pi {g c n k:Nat} {W:Zw} (hp:KnowsP c W) (h:KnowsI g n W) (j:W.heap[k]?=some (.cells #[Zi 5,.string ⟨#[]⟩,Zz,Zz,.slice (Zs c 0) 1 1,Zi 8,.string ⟨#[]⟩,.slice (Zs n 0) 1 1,Zz,.slice (Zs g 0) 1 1] 31)):TyRow W 3 (.slice (Zs k 0) 2 2) [tP,tI]:=TyRow.two j (Qa W) (BRow.nil W) hp h.2 (BRow.nil W) h.1
theorem bon {u v w:Zw} (h:ZB u v) (k:ZB v w):ZB u w:=Zn h k
theorem kp {v w:Zw} {g:Nat} {O:Obj} (k:ZB v w) (h:v.heap[g]?=some O):w.heap[g]?=some O:=(k.block g (Y8.1 h).1).trans h
theorem tc5 {W:Zw} {g:Nat} {a b c d e:Value} {t:TypeId} (h:W.heap[g]?=some (.cells #[a,b,c,d,e] t)):ZL5 W g a b c d e:=
 ⟨by rw[Y0 h];rfl,by rw[Y0 h];rfl,by rw[Y0 h];rfl,by rw[Y0 h];rfl,by rw[Y0 h];rfl⟩
theorem tc7 {W:Zw} {g:Nat} {a b c d e f i:Value} {t:TypeId} (h:W.heap[g]?=some (.cells #[a,b,c,d,e,f,i] t)):ZL7 W g a b c d e f i:=
 ⟨by rw[Y0 h];rfl,by rw[Y0 h];rfl,by rw[Y0 h];rfl,by rw[Y0 h];rfl,by rw[Y0 h];rfl,by rw[Y0 h];rfl,by rw[Y0 h];rfl⟩
theorem told_x {W:Zw} {d:Nat} {K N:Int} {S want:Bs} {pp:Zo} {cp:Nat} {xs:List (Ex 0 d)} (h:XRow W d (.slice pp xs.length cp) xs) (c:zh7 0 d (0,K,N,S,[],[],xs)) (g:ExFits 0 d xs) (j:Tab W) (r:4<=W.heap.size) (s:zcn 0 d (0,K,N,S,[],[],xs)=.inr want) :
  ZC 25 #[.agg #[Zi 0,Zi K,Zi N,.string ⟨S.toArray⟩,Zz,Zz,.slice pp xs.length cp],.string ⟨want.toArray⟩] W (.bool true):=
 told_yes 0 d 0 K N S want none none pp 0 0 cp [] [] xs W (TyRow.nil W 0) (Qa W) h.1 h.2 c g j r s
theorem efn:∀d,ExFits 0 d []
 | 0=>trivial
 | _+1=>⟨Xr _,(fun _ h=>nomatch h)⟩
theorem efc {d:Nat} {x:Ex 0 (d+1)} {xs:List (Ex 0 (d+1))} (h:zh7 0 d x/\ExFits 0 d (xPs x)) (k:ExFits 0 (d+1) xs) (c:xs.length<10):ExFits 0 (d+1) (x::xs):=
 ⟨by simp;omega,fun u hu=>by
  rcases Xj.1 hu with rfl|hu
  ·exact h
  ·exact k.2 u hu⟩
theorem zme (d:Nat) (n:Int) (c:-9223372036854775808<=n) (g:n<=9223372036854775807):zh7 0 d (xN1 d n)/\ExFits 0 d (xPs (xN1 d n)):=⟨⟨Xr _,Xr _,trivial,Xr _,(fun _ h=>nomatch h),Xr _,c,g⟩,efn d⟩
theorem zmd (d:Nat) (s:Bs) (h:s.length<=35184372088832):zh7 0 d (xV d s)/\ExFits 0 d (xPs (xV d s)):=⟨⟨h,Xr _,trivial,Xr _,(fun _ h=>nomatch h),Xr _,(show(-9223372036854775808:Int)<=0 by decide),(show(0:Int)<=9223372036854775807 by decide)⟩,efn d⟩
theorem ef_any {d:Nat} (k:Int) (s:Bs) (xs:List (Ex 0 d)) (c:s.length<=35184372088832) (g:xs.length<10) (h:ExFits 0 d xs):zh7 0 d (0,k,0,s,[],[],xs)/\ExFits 0 d xs:=⟨⟨c,Xr _,trivial,Xr _,(fun _ h=>nomatch h),(show xs.length<=1000000 by omega),(show(-9223372036854775808:Int)<=0 by decide),(show(0:Int)<=9223372036854775807 by decide)⟩,h⟩
theorem zmc {d:Nat} (k:Int) {x y:Ex 0 (d+1)} (c:zh7 0 d x/\ExFits 0 d (xPs x)) (g:zh7 0 d y/\ExFits 0 d (xPs y)):zh7 0 (d+1) (zkj (d+1) k x y)/\ExFits 0 (d+1) [x,y]:=ef_any k [] [x,y] (by decide) (by simp) (efc c (efc g (efn _) (by simp)) (by simp))
theorem told_1 {W:Zw} {g h:Nat} (H1:W.heap[g]?=some (.cells #[Zi 0,Zi 1,Zi 1,.string ⟨#[]⟩,Zz,Zz,Zz,Zi 0,Zi 1,Zi 2,.string ⟨#[]⟩,Zz,Zz,Zz] 62))
  (j:W.heap[h]?=some (.cells #[Zi 0,Zi 16,Zi 0,.string ⟨#[]⟩,Zz,Zz,.slice (Zs g 0) 2 2,Zi 0,Zi 1,Zi 3,.string ⟨#[]⟩,Zz,Zz,Zz] 62)) (r:Tab W) (s:4<=W.heap.size) :
  ZC 25 #[.agg #[Zi 0,Zi 15,Zi 0,.string ⟨#[]⟩,Zz,Zz,.slice (Zs h 0) 2 2],.string ⟨#[40,32,49,32,43,32,50,32,41,32,42,32,51]⟩] W (.bool true):=by
 have t:XRow W 1 (.slice (Zs g 0) 2 2) [xN1 0 1,xN1 0 2]:=XRow.two H1 (XRow.nil W 0) (XRow.nil W 0);have u:XRow W 2 (.slice (Zs h 0) 2 2) [zkj 1 16 (xN1 0 1) (xN1 0 2),xN1 1 3]:=XRow.two j t (XRow.nil W 1);have c:=zmc (d:=1) 15 (x:=zkj 1 16 (xN1 0 1) (xN1 0 2)) (y:=xN1 1 3) (zmc (d:=0) 16 (zme 0 1 (by decide) (by decide)) (zme 0 2 (by decide) (by decide))) (zme 1 3 (by decide) (by decide));exact told_x (xs:=[zkj 1 16 (xN1 0 1) (xN1 0 2),xN1 1 3]) u c.1 c.2 r s ans_1
theorem told_23 {W:Zw} {g h:Nat} {k c:Int} {want:Bs} (H1:W.heap[g]?=some (.cells #[Zi 0,Zi 1,Zi 2,.string ⟨#[]⟩,Zz,Zz,Zz,Zi 0,Zi 1,Zi 3,.string ⟨#[]⟩,Zz,Zz,Zz] 62))
  (r:W.heap[h]?=some (.cells #[Zi 0,Zi 1,Zi 1,.string ⟨#[]⟩,Zz,Zz,Zz,Zi 0,Zi c,Zi 0,.string ⟨#[]⟩,Zz,Zz,.slice (Zs g 0) 2 2] 62)) (s:Tab W) (t:4<=W.heap.size)
  (u:zcn 0 2 (zkj 2 k (xN1 1 1) (zkj 1 c (xN1 0 2) (xN1 0 3)))=.inr want) :
  ZC 25 #[.agg #[Zi 0,Zi k,Zi 0,.string ⟨#[]⟩,Zz,Zz,.slice (Zs h 0) 2 2],.string ⟨want.toArray⟩] W (.bool true):=by
 have G:XRow W 1 (.slice (Zs g 0) 2 2) [xN1 0 2,xN1 0 3]:=XRow.two H1 (XRow.nil W 0) (XRow.nil W 0);have I:XRow W 2 (.slice (Zs h 0) 2 2) [xN1 1 1,zkj 1 c (xN1 0 2) (xN1 0 3)]:=XRow.two r (XRow.nil W 1) G;have j:=zmc (d:=1) k (x:=xN1 1 1) (y:=zkj 1 c (xN1 0 2) (xN1 0 3)) (zme 1 1 (by decide) (by decide)) (zmc (d:=0) c (zme 0 2 (by decide) (by decide)) (zme 0 3 (by decide) (by decide)));exact told_x (xs:=[xN1 1 1,zkj 1 c (xN1 0 2) (xN1 0 3)]) I j.1 j.2 s t u
abbrev varO (s:Zy):Obj:=.cells #[Zi 0,Zi 4,Zi 0,.string s,Zz,Zz,Zz] 62
theorem told_5 {W:Zw} {g:Nat} (H1:W.heap[g]?=some (varO ⟨#[120]⟩)) (h:Tab W) (j:4<=W.heap.size) :
  ZC 25 #[.agg #[Zi 0,Zi 10,Zi 0,.string ⟨#[97]⟩,Zz,Zz,.slice (Zs g 0) 1 1],.string ⟨#[120,32,46,32,97,32,40,32,41]⟩] W (.bool true):=by
 have r:XRow W 1 (.slice (Zs g 0) 1 1) [xV 0 [120]]:=XRow.one (S:=[120]) H1 (XRow.nil W 0);have c:=ef_any 10 [97] [xV 0 [120]] (by decide) (by simp) (efc (zmd 0 [120] (by decide)) (efn _) (by simp));exact told_x (S:=[97]) (xs:=[xV 0 [120]]) r c.1 c.2 h j ans_5
theorem told_4 {W:Zw} {g h:Nat} (H1:W.heap[g]?=some (varO ⟨#[120]⟩)) (j:W.heap[h]?=some (.cells #[Zi 0,Zi 9,Zi 0,.string ⟨#[97]⟩,Zz,Zz,.slice (Zs g 0) 1 1] 62)) (r:Tab W) (s:4<=W.heap.size) :
  ZC 25 #[.agg #[Zi 0,Zi 11,Zi 0,.string ⟨#[]⟩,Zz,Zz,.slice (Zs h 0) 1 1],.string ⟨#[40,32,120,32,46,32,97,32,41,32,40,32,41]⟩] W (.bool true):=by
 have t:XRow W 1 (.slice (Zs g 0) 1 1) [xV 0 [120]]:=XRow.one (S:=[120]) H1 (XRow.nil W 0);have u:XRow W 2 (.slice (Zs h 0) 1 1) [xField 0]:=XRow.one (S:=[97]) j t;have c:=ef_any 11 [] [xField 0] (by decide) (by simp) (efc (ef_any 9 [97] [xV 0 [120]] (by decide) (by simp) (efc (zmd 0 [120] (by decide)) (efn _) (by simp))) (efn _) (by simp));exact told_x (xs:=[xField 0]) u c.1 c.2 r s ans_4
abbrev xyO:Obj:=.cells #[Zi 0,Zi 4,Zi 0,.string ⟨#[120]⟩,Zz,Zz,Zz,Zi 0,Zi 4,Zi 0,.string ⟨#[121]⟩,Zz,Zz,Zz] 62
theorem told_6 {W:Zw} {g h:Nat} (H1:W.heap[g]?=some xyO) (j:W.heap[h]?=some (.cells #[Zi 0,Zi 18,Zi 0,.string ⟨#[]⟩,Zz,Zz,.slice (Zs g 0) 2 2] 62)) (r:Tab W) (s:4<=W.heap.size) :
  ZC 25 #[.agg #[Zi 0,Zi 14,Zi 0,.string ⟨#[]⟩,Zz,Zz,.slice (Zs h 0) 1 1],.string ⟨#[110,111,116,32,40,32,120,32,61,61,32,121,32,41]⟩] W (.bool true):=by
 have t:XRow W 1 (.slice (Zs g 0) 2 2) [xV 0 [120],xV 0 [121]]:=XRow.two (S:=[120]) (S':=[121]) H1 (XRow.nil W 0) (XRow.nil W 0);have u:XRow W 2 (.slice (Zs h 0) 1 1) [zkj 1 18 (xV 0 [120]) (xV 0 [121])]:=XRow.one (S:=[]) j t;have c:=ef_any 14 [] [zkj 1 18 (xV 0 [120]) (xV 0 [121])] (by decide) (by simp) (efc (zmc (d:=0) 18 (zmd 0 [120] (by decide)) (zmd 0 [121] (by decide))) (efn _) (by simp));exact told_x (xs:=[zkj 1 18 (xV 0 [120]) (xV 0 [121])]) u c.1 c.2 r s ans_6
theorem told_7 {W:Zw} {g h:Nat} (H1:W.heap[g]?=some xyO) (j:W.heap[h]?=some (.cells #[Zi 0,Zi 18,Zi 0,.string ⟨#[]⟩,Zz,Zz,.slice (Zs g 0) 2 2,Zi 0,Zi 4,Zi 0,.string ⟨#[122]⟩,Zz,Zz,Zz] 62)) (r:Tab W) (s:4<=W.heap.size) :
  ZC 25 #[.agg #[Zi 0,Zi 18,Zi 0,.string ⟨#[]⟩,Zz,Zz,.slice (Zs h 0) 2 2],.string ⟨#[40,32,120,32,61,61,32,121,32,41,32,61,61,32,122]⟩] W (.bool true):=by
 have t:XRow W 1 (.slice (Zs g 0) 2 2) [xV 0 [120],xV 0 [121]]:=XRow.two (S:=[120]) (S':=[121]) H1 (XRow.nil W 0) (XRow.nil W 0);have u:XRow W 2 (.slice (Zs h 0) 2 2) [zkj 1 18 (xV 0 [120]) (xV 0 [121]),xV 1 [122]]:=XRow.two (S:=[]) (S':=[122]) j t (XRow.nil W 1);have c:=zmc (d:=1) 18 (x:=zkj 1 18 (xV 0 [120]) (xV 0 [121])) (y:=xV 1 [122]) (zmc (d:=0) 18 (zmd 0 [120] (by decide)) (zmd 0 [121] (by decide))) (zmd 1 [122] (by decide));exact told_x (xs:=[zkj 1 18 (xV 0 [120]) (xV 0 [121]),xV 1 [122]]) u c.1 c.2 r s ans_7
theorem expr_neg1 (W:Zw) (c:Tab W) (g:4<=W.heap.size):ZC 28 #[.agg #[Zi 0,Zi 1,Zi (-1),.string ⟨#[]⟩,Zz,Zz,Zz]] W (.tuple #[.string ⟨#[]⟩,Zi 1]):=
 (Expr_any 0 0 0 1 (-1) [] none none none 0 0 0 [] [] [] W (TyRow.nil W 0) (Qa W) (XRow.nil W 0).1 (XRow.nil W 0).2 (zme 0 (-1) (by decide) (by decide)).1 (efn 0) c g).mono fun e w' ⟨he,h⟩=>⟨by rw[he,show zcn 0 0 (0,1,-1,[],[],[],[])=.inl 1 from ans_8];rfl,h⟩
end Go.Proofs.YtdcbglnhhbmpgaaGreatDoor
namespace Go.Proofs.YtdcbglnhhbmpgaaGreatDoor
open Go Go.RowKit Lx
theorem Qb {W:Zw} {base:Nat} {v:Value} {ns:List Bs} (h:W.ownsRow base 9 1 v ns.length (za8 ns)):SRow W v ns:=by
 rcases h.2 with⟨rfl,c⟩|⟨g,cap,cur,rfl,x,r,G,hm,I,s⟩
 ·have:ns=[]:=YB c;subst this;exact⟨none,0,rfl,fun j t h=>by simp at h⟩
 ·refine⟨_,cap,rfl,fun j t u=>⟨g,0,rfl,?_⟩⟩;have hu:(za8 ns)[j]?=some (.string ⟨t.toArray⟩):=by simp[za8,u]
  rw[Y0 r,X3,<-Array.getElem?_toList];rw[<-s]at hu;rw[List.getElem?_take]at hu
  split at hu
  ·exact hu
  ·cases hu
abbrev z0:Value:=Zz
abbrev nmO:Obj:=.cells #[.string ⟨#[97]⟩,.string ⟨#[98]⟩] 9
abbrev emO:Obj:=.cells #[.bool false,.bool true] 4
abbrev ptO:Obj:=.cells #[Zi 1,.string ⟨#[]⟩,z0,z0,z0,Zi 4,.string ⟨#[66]⟩,z0,z0,z0] 31
abbrev recO (a b c:Nat):Obj:=.cells #[Zi 6,.string ⟨#[]⟩,.slice (Zs a 0) 2 2,.slice (Zs b 0) 2 2,.slice (Zs c 0) 2 2] 31
abbrev pO (g:Nat):Obj:=.cells #[Zi 5,.string ⟨#[]⟩,z0,z0,.slice (Zs g 0) 1 1] 31
abbrev snO:Obj:=.cells #[.string ⟨#[97]⟩] 9
abbrev fO (c:Nat):Obj:=.cells #[Zi 7,.string ⟨#[]⟩,z0,z0,.slice (Zs c 0) 2 2] 31
abbrev iO (n g:Nat):Obj:=.cells #[Zi 8,.string ⟨#[]⟩,.slice (Zs n 0) 1 1,z0,.slice (Zs g 0) 1 1] 31
def FF (w W0:Zw) (r a b c p g i h j:Nat) (W:Zw):Prop:=
 W.heap[r]?=some (recO a b c)/\W.heap[p]?=some (pO g)/\W.heap[i]?=some (iO j h)/\KnowsP g W/\KnowsI h j W/\ZB W0 W/\ZB w W/\Tab W/\4<=W.heap.size
theorem FF.on {w W0:Zw} {r a b c p j i s t:Nat} {W W':Zw} (h:FF w W0 r a b c p j i s t W) (g:ZB W W'):FF w W0 r a b c p j i s t W':=by
 obtain⟨x,G,I,J,L,M,U,V,u⟩:=h;exact⟨kp g x,kp g G,kp g I,J.below g,L.below g,bon M g,bon U g,V.below g u,Yh u g.size⟩
abbrev zfu (K:Int) (g:Nat):Obj:=.cells #[Zi 0,Zi K,Zi 0,.string ⟨#[97]⟩,z0,z0,.slice (Zs g 0) 1 1] 62
def GG (w W0:Zw) (r a b c g h cb j yb:Nat) (W:Zw):Prop:=
 W.heap[r]?=some (recO a b c)/\ZB W0 W/\ZB w W/\Tab W/\4<=W.heap.size/\W.heap[g]?=some (varO ⟨#[120]⟩)/\W.heap[h]?=some (zfu 9 g)/\W.heap[cb]?=some (zfu 10 g)/\W.heap[j]?=some (varO ⟨#[120]⟩)/\W.heap[yb]?=some (varO ⟨#[121]⟩)
theorem GG.on {w W0:Zw} {r a b c j s cb t yb:Nat} {W W':Zw} (h:GG w W0 r a b c j s cb t yb W) (g:ZB W W'):GG w W0 r a b c j s cb t yb W':=by
 obtain⟨x,G,I,J,u,L,M,U,V,Y⟩:=h;exact⟨kp g x,bon G g,bon I g,J.below g u,Yh u g.size,kp g L,kp g M,kp g U,kp g V,kp g Y⟩
theorem zc7 (d:Nat) (t:Ty (d+1)) (r:List (Ty (d+1))):many (d+1) (t::r)=1+many d t.2.2.2.2+many (d+1) r:=by rw[many]
theorem zel:∀d,many d []=0
 | 0=>by rw[many]
 | _+1=>by rw[many]
theorem many_1:many 1 [tInt 0,tB 0]=2:=by rw[zc7,zc7,pInt,pB,zel,zel]
theorem many_p:many 3 [tP]<=1000000:=by rw[zc7,pP,zc7,pR,many_1,zel,zel];decide
theorem many_i:many 3 [tI]<=1000000:=by rw[zc7,pI,zc7,pF,many_1,zel,zel];decide
theorem many_pi:many 3 [tP,tI]<=1000000:=by rw[zc7,zc7,pI,pP,zc7,zc7,pR,pF,many_1,zel,zel];decide
theorem zjq {W:Zw} {v:Value} {c:List (Ty 3)} {n:Nat} (h:TyRow W 3 v c) (hm:many 3 c<=1000000) (g:nodes 3 c=n):ZC 20 #[v] W (Zi (n:Nat)):=g ▸ Nodes_any 3 v c W h hm
theorem depth_call {W:Zw} {v:Value} (h:TyRow W 3 v [tP]):ZC 23 #[v] W (Zi 3):=(zky 3 v _ W h many_p).mono fun e w' ⟨he,c⟩=>⟨by rw[he,deep_p];rfl,c⟩
theorem depth_call0 (W:Zw):ZC 23 #[Zz] W (Zi 0):=(zky 0 _ [] W ⟨none,0,rfl⟩ (by simp[many])).mono fun e w' ⟨he,c⟩=>⟨by rw[he];simp[deep],c⟩
theorem names_call {W:Zw} {v:Value} (h:TyRow W 3 v [tP]):Zg 22 #[v] W fun e w'=>(∃u,e=.returned u/\SRow w' u [[66]])/\ZB W w':=
 (Names_any 3 v _ W h ⟨by simp,fun t g=>by rw[Xg.1 g];exact fit_P⟩ many_p).mono fun e w' ⟨j,u,he,c⟩=>⟨⟨u,he,by rw[names_p]at c;exact Qb c⟩,j⟩
theorem SyntaxRuns_any (w:Zw) (aZ:Tab w) (ah:4<=w.heap.size):ZC 5 #[] w (.bool true):=by
 have a1:=J3 aZ;clear aZ;go_enter Tryz.func5,Tryz.ntmps5;go_wp2_with fail;refine(ty_any _ _ _ _ _).mono ?_;rintro _ w1 ⟨rfl,aq⟩;have ar:=J3 (kp aq (hp2a w nmO emO));have au:=J3 (kp aq (hp2b w nmO emO));have am:=J3 (bon (al2 w nmO emO) aq);clear aq;go_wp2_with fail;refine(zla _ _).mono ?_;rintro _ g ⟨rfl,av⟩;replace ar:=J3 (kp av ar);replace au:=J3 (kp av au);replace am:=J3 (bon am av);clear av;have an:ZH (SRow (g.alloc ptO) (.slice (Zs w.heap.size 0) 2 2) [[97],[98]]/\BRow (g.alloc ptO) (.slice (Zs (w.heap.size+1) 0) 2 2) [false,true]/\TyRow (g.alloc ptO) 1 (.slice (Zs g.heap.size 0) 2 2) [tInt 0,tB 0]):=
  ⟨srow2 (s:=[97]) (u:=[98]) (kp (al1 _ _) ar),brow2 (kp (al1 _ _) au),TyRow.two (S:=[]) (S':=[66]) (hp1 g ptO) (Qa _) (BRow.nil _) (TyRow.nil _ 0) (Qa _) (BRow.nil _) (TyRow.nil _ 0)⟩
 clear ar au;go_wp2_with fail;refine(ty_any _ _ _ _ _).mono ?_;rintro _ J ⟨rfl,aw⟩;have ad:=J3 (kp aw (hp3b g ptO (recO w.heap.size (w.heap.size+1) g.heap.size) (recO w.heap.size (w.heap.size+1) g.heap.size)));have a2:=kp aw (hp3c g ptO (recO w.heap.size (w.heap.size+1) g.heap.size) (recO w.heap.size (w.heap.size+1) g.heap.size));have t:=J3 (bon (al2 (g.alloc ptO) (recO w.heap.size (w.heap.size+1) g.heap.size) (recO w.heap.size (w.heap.size+1) g.heap.size)) aw);have ae:ZH (KnowsP (g.heap.size+1+1) J):=TyRow.one (S:=[]) a2 (an.1.below t) (an.2.1.below t) (TyRow.below t 1 an.2.2);clear aw a2;go_wp2_with fail;refine(ty_any _ _ _ _ _).mono ?_;rintro _ bC ⟨rfl,ax⟩;have ag:=J3 (kp ax (hp2a J (pO (g.heap.size+1+1)) snO));have ai:=J3 (kp ax (hp2b J (pO (g.heap.size+1+1)) snO));have ay:=bon (al2 J (pO (g.heap.size+1+1)) snO) ax;replace ad:=J3 (kp ay ad);replace t:=J3 (bon t ay);replace ae:=J3 (ae.below ay);clear ax ay;go_wp2_with fail;refine(zla _ _).mono ?_;rintro _ az ⟨rfl,aj⟩;replace ag:=J3 (kp aj ag);replace ai:=J3 (kp aj ai);replace ad:=J3 (kp aj ad);replace t:=J3 (bon t aj);replace ae:=J3 (ae.below aj);clear aj;go_wp2_with fail;refine(ty_any _ _ _ _ _).mono ?_;rintro _ L ⟨rfl,aG⟩;have a3:=J3 (kp aG (hp1 az ptO));have ak:=bon (al1 az ptO) aG;replace ag:=J3 (kp ak ag);replace ai:=J3 (kp ak ai);replace ad:=J3 (kp ak ad);replace t:=J3 (bon t ak);replace ae:=J3 (ae.below ak);clear aG ak;obtain⟨M,Y,Z,aa,ab⟩:=tc5 ag;have aH:=J2 M;go_wp2_with fail;have af:=al2 L (fO az.heap.size) (iO (J.heap.size+1) L.heap.size);have U:=bon (bon (bon am (al1 g ptO)) t) af;have c:ZH (FF w (g.alloc ptO) (g.heap.size+1) w.heap.size (w.heap.size+1) g.heap.size J.heap.size (g.heap.size+1+1) (L.heap.size+1) L.heap.size (J.heap.size+1) ((L.alloc (fO az.heap.size)).alloc (iO (J.heap.size+1) L.heap.size))):=
  ⟨kp af ad,kp af ag,hp2b L _ _,ae.below af,⟨TyRow.one (S:=[]) (hp2a L _ _) (Qa _) (BRow.nil _) (TyRow.two (S:=[]) (S':=[66]) (kp af a3) (Qa _) (BRow.nil _) (TyRow.nil _ 0) (Qa _) (BRow.nil _) (TyRow.nil _ 0)),srow1 (s:=[97]) (kp af ai)⟩,bon t af,U,a1.below U ah,Yh ah U.size⟩
 have a4:ZH (w.heap.size<=(g.alloc ptO).heap.size):=(bon am (al1 g ptO)).size;clear af U ad ag a3 ai ae t am a1 M Y Z aa ab aH;have a5:ZH ((g.alloc ptO).heap.size<=g.heap.size+1):=by show _<=_;simp
 generalize g.heap.size+1+1=gp at c ⊢;generalize g.heap.size+1=rb at c a5 ⊢;generalize J.heap.size+1=gn at c ⊢;refine(type_p c.2.2.2.1 c.2.2.2.2.2.2.2.1 c.2.2.2.2.2.2.2.2).mono ?_;rintro _ bD ⟨rfl,a6⟩;replace c:=J3 (c.on a6);clear a6;generalize L.heap.size+1=ib at c ⊢;generalize L.heap.size=gi at c ⊢;generalize J.heap.size=pb at c ⊢;obtain⟨i0,i1,i2,i3,i4⟩:=tc5 c.2.2.1;go_wp2_with fail;refine(type_i c.2.2.2.2.1 c.2.2.2.2.2.2.2.1 c.2.2.2.2.2.2.2.2).mono ?_;rintro _ bm ⟨rfl,a7⟩;replace c:=J3 (c.on a7);clear a7 i0 i1 i2 i3 i4;obtain⟨M,Y,Z,aa,ab⟩:=tc5 c.2.1;go_wp2_with fail;refine(zjq (row_p (c.2.2.2.1.below (al1 _ _)) (hp1 bm _)) many_p nodes_p).mono ?_;rintro _ bn ⟨rfl,a8⟩;replace c:=J3 (c.on (bon (al1 _ _) a8));clear a8 M Y Z aa ab;obtain⟨i0,i1,i2,i3,i4⟩:=tc5 c.2.2.1;go_wp2_with fail;refine(zjq (row_i (c.2.2.2.2.1.below (al1 _ _)) (hp1 bn _)) many_i nodes_i).mono ?_;rintro _ bo ⟨rfl,a9⟩;replace c:=J3 (c.on (bon (al1 _ _) a9));clear a9 i0 i1 i2 i3 i4;obtain⟨M,Y,Z,aa,ab⟩:=tc5 c.2.1;obtain⟨i0,i1,i2,i3,i4⟩:=tc5 c.2.2.1;go_wp2_with fail;refine(zjq (row_pi (c.2.2.2.1.below (al1 _ _)) (c.2.2.2.2.1.below (al1 _ _)) (hp1 bo _)) many_pi nodes_pi).mono ?_;rintro _ bp ⟨rfl,a'⟩;replace c:=J3 (c.on (bon (al1 _ _) a'));clear a' i0 i1 i2 i3 i4 M Y Z aa ab;obtain⟨M,Y,Z,aa,ab⟩:=tc5 c.2.1;go_wp2_with fail;refine(names_call (row_p (c.2.2.2.1.below (al1 _ _)) (hp1 bp _))).mono ?_;rintro _ bq ⟨⟨u,rfl,hu⟩,ba⟩;have bb:=J3 hu;replace c:=J3 (c.on (bon (al1 _ _) ba));clear ba M Y Z aa ab hu;go_wp2_with fail;refine(SameStr_any _ _ [[66]] _ (by decide) (bb.below (al1 _ _)) (srow1 (s:=[66]) (hp1 bq _))).mono ?_;rintro _ br ⟨rfl,bc⟩;replace c:=J3 (c.on (bon (al1 _ _) bc));clear bc bb;obtain⟨M,Y,Z,aa,ab⟩:=tc5 c.2.1;go_wp2_with fail;refine(depth_call (row_p (c.2.2.2.1.below (al1 _ _)) (hp1 br _))).mono ?_;rintro _ bE ⟨rfl,be⟩;replace c:=J3 (c.on (bon (al1 _ _) be));clear be M Y Z aa ab;go_wp2_with fail;refine(depth_call0 _).mono ?_;rintro _ bF ⟨rfl,bf⟩;replace c:=J3 (c.on bf);clear bf;go_wp2_with fail;refine(zeo _ _).mono ?_;rintro _ r ⟨rfl,h⟩;replace c:=J3 (c.on h);clear h;go_wp2_with fail;refine(zeo _ _).mono ?_;rintro _ aA ⟨rfl,h⟩;have aB:=J3 (kp h (hp3a r (varO ⟨#[120]⟩) (zfu 9 r.heap.size) (zfu 10 r.heap.size)));have aC:=J3 (kp h (hp3b r (varO ⟨#[120]⟩) (zfu 9 r.heap.size) (zfu 10 r.heap.size)));have aD:=J3 (kp h (hp3c r (varO ⟨#[120]⟩) (zfu 9 r.heap.size) (zfu 10 r.heap.size)));replace c:=J3 (c.on (bon (al3 r (varO ⟨#[120]⟩) (zfu 9 r.heap.size) (zfu 10 r.heap.size)) h));clear h;go_wp2_with fail;refine(zeo _ _).mono ?_;rintro _ ao ⟨rfl,h⟩;have bg:=J3 (kp h (hp1 aA (varO ⟨#[120]⟩)));have x:=bon (al1 aA (varO ⟨#[120]⟩)) h;replace aB:=J3 (kp x aB);replace aC:=J3 (kp x aC);replace aD:=J3 (kp x aD);replace c:=J3 (c.on x);clear h x;have x:=al1 ao (varO ⟨#[121]⟩);have al:=c.on x;have G:ZH (GG w (g.alloc ptO) rb w.heap.size (w.heap.size+1) g.heap.size r.heap.size (r.heap.size+1) (r.heap.size+1+1) aA.heap.size ao.heap.size (ao.alloc (varO ⟨#[121]⟩))):=
  ⟨al.1,al.2.2.2.2.2.1,al.2.2.2.2.2.2.1,al.2.2.2.2.2.2.2.1,al.2.2.2.2.2.2.2.2,kp x aB,kp x aC,kp x aD,kp x bg,hp1 ao _⟩
 clear x c al aB aC aD bg;go_wp2_with fail;refine(zeq _ _).mono ?_;rintro _ bG ⟨rfl,h⟩;replace G:=J3 (G.on h);clear h;generalize r.heap.size+1+1=cb at G ⊢;generalize r.heap.size+1=fb at G ⊢;generalize r.heap.size=gx at G ⊢;generalize aA.heap.size=xb at G ⊢;generalize ao.heap.size=yb at G ⊢;go_wp2_with fail;refine(zeq _ _).mono ?_;rintro _ bH ⟨rfl,h⟩;replace G:=J3 (G.on h);clear h;go_wp2_with fail;refine(zf9 _ _ _ _ _ _ _ _ _ _ _ _ _ _ _ _).mono ?_;rintro _ bI ⟨g1,rfl,_,j,h⟩;have H1:=J3 j;replace G:=J3 (G.on h);clear h j;go_wp2_with fail;refine(zeq _ _).mono ?_;rintro _ bJ ⟨rfl,h⟩;replace G:=J3 (G.on h);replace H1:=J3 (kp h H1);clear h;go_wp2_with fail;refine(zf9 _ _ _ _ _ _ _ _ _ _ _ _ _ _ _ _).mono ?_;rintro _ bK ⟨g2,rfl,_,j,h⟩;have I:=J3 j;replace G:=J3 (G.on h);replace H1:=J3 (kp h H1);clear h j;go_wp2_with fail;refine(told_1 H1 I G.2.2.2.1 G.2.2.2.2.1).mono ?_;rintro _ bL ⟨rfl,h⟩;replace G:=J3 (G.on h);clear h H1 I;go_wp2_with fail;refine(zeq _ _).mono ?_;rintro _ bM ⟨rfl,h⟩;replace G:=J3 (G.on h);clear h;go_wp2_with fail;refine(zeq _ _).mono ?_;rintro _ bN ⟨rfl,h⟩;replace G:=J3 (G.on h);clear h;go_wp2_with fail;refine(zeq _ _).mono ?_;rintro _ bO ⟨rfl,h⟩;replace G:=J3 (G.on h);clear h;go_wp2_with fail;refine(zf9 _ _ _ _ _ _ _ _ _ _ _ _ _ _ _ _).mono ?_;rintro _ bP ⟨g1,rfl,_,j,h⟩;have H1:=J3 j;replace G:=J3 (G.on h);clear h j;go_wp2_with fail;refine(zf9 _ _ _ _ _ _ _ _ _ _ _ _ _ _ _ _).mono ?_;rintro _ bQ ⟨g2,rfl,_,j,h⟩;have I:=J3 j;replace G:=J3 (G.on h);replace H1:=J3 (kp h H1);clear h j;go_wp2_with fail;refine(told_23 H1 I G.2.2.2.1 G.2.2.2.2.1 ans_2).mono ?_;rintro _ bR ⟨rfl,h⟩;replace G:=J3 (G.on h);clear h H1 I;go_wp2_with fail;refine(zeq _ _).mono ?_;rintro _ bS ⟨rfl,h⟩;replace G:=J3 (G.on h);clear h;go_wp2_with fail;refine(zeq _ _).mono ?_;rintro _ bT ⟨rfl,h⟩;replace G:=J3 (G.on h);clear h;go_wp2_with fail;refine(zeq _ _).mono ?_;rintro _ bU ⟨rfl,h⟩;replace G:=J3 (G.on h);clear h;go_wp2_with fail;refine(zf9 _ _ _ _ _ _ _ _ _ _ _ _ _ _ _ _).mono ?_;rintro _ bV ⟨g1,rfl,_,j,h⟩;have H1:=J3 j;replace G:=J3 (G.on h);clear h j;go_wp2_with fail;refine(zf9 _ _ _ _ _ _ _ _ _ _ _ _ _ _ _ _).mono ?_;rintro _ bW ⟨g2,rfl,_,j,h⟩;have I:=J3 j;replace G:=J3 (G.on h);replace H1:=J3 (kp h H1);clear h j;go_wp2_with fail;refine(told_23 H1 I G.2.2.2.1 G.2.2.2.2.1 ans_3).mono ?_;rintro _ bh ⟨rfl,h⟩;replace G:=J3 (G.on h);clear h H1 I;obtain⟨f0,f1,f2,f3,f4,f5,f6⟩:=tc7 G.2.2.2.2.2.2.1;go_wp2_with fail;have V:=G.on (al1 bh (zfu 9 gx));refine(told_4 V.2.2.2.2.2.1 (hp1 bh _) V.2.2.2.1 V.2.2.2.2.1).mono ?_;rintro _ bX ⟨rfl,h⟩;replace G:=J3 (V.on h);clear h V f0 f1 f2 f3 f4 f5 f6;obtain⟨f0,f1,f2,f3,f4,f5,f6⟩:=tc7 G.2.2.2.2.2.2.2.1;go_wp2_with fail;refine(told_5 G.2.2.2.2.2.1 G.2.2.2.1 G.2.2.2.2.1).mono ?_;rintro _ bY ⟨rfl,h⟩;replace G:=J3 (G.on h);clear h f0 f1 f2 f3 f4 f5 f6;obtain⟨aI,aJ,aK,aL,aM,aN,aO⟩:=tc7 G.2.2.2.2.2.2.2.2.1;obtain⟨aP,aQ,aR,aS,aT,aU,aV⟩:=tc7 G.2.2.2.2.2.2.2.2.2;go_wp2_with fail;refine(zf9 _ _ _ _ _ _ _ _ _ _ _ _ _ _ _ _).mono ?_;rintro _ bi ⟨g1,rfl,_,j,h⟩;have H1:=J3 j;replace G:=J3 (G.on h);clear h j;clear aI aJ aK aL aM aN aO aP aQ aR aS aT aU aV;go_wp2_with fail;have V:=G.on (al1 bi (.cells #[Zi 0,Zi 18,Zi 0,.string ⟨#[]⟩,z0,z0,.slice (Zs g1 0) 2 2] 62));refine(told_6 (kp (al1 _ _) H1) (hp1 bi _) V.2.2.2.1 V.2.2.2.2.1).mono ?_;rintro _ bZ ⟨rfl,h⟩;replace G:=J3 (V.on h);clear h V H1;obtain⟨aI,aJ,aK,aL,aM,aN,aO⟩:=tc7 G.2.2.2.2.2.2.2.2.1;obtain⟨aP,aQ,aR,aS,aT,aU,aV⟩:=tc7 G.2.2.2.2.2.2.2.2.2;go_wp2_with fail;refine(zf9 _ _ _ _ _ _ _ _ _ _ _ _ _ _ _ _).mono ?_;rintro _ b1 ⟨g1,rfl,_,j,h⟩;have H1:=J3 j;replace G:=J3 (G.on h);clear h j;clear aI aJ aK aL aM aN aO aP aQ aR aS aT aU aV;go_wp2_with fail;refine(zeo _ _).mono ?_;rintro _ b2 ⟨rfl,h⟩;replace G:=J3 (G.on h);replace H1:=J3 (kp h H1);clear h;go_wp2_with fail;refine(zf9 _ _ _ _ _ _ _ _ _ _ _ _ _ _ _ _).mono ?_;rintro _ b3 ⟨g2,rfl,_,j,h⟩;have I:=J3 j;replace G:=J3 (G.on h);replace H1:=J3 (kp h H1);clear h j;go_wp2_with fail;refine(told_7 H1 I G.2.2.2.1 G.2.2.2.2.1).mono ?_;rintro _ b4 ⟨rfl,h⟩;replace G:=J3 (G.on h);clear h H1 I;go_wp2_with fail;refine(zeq _ _).mono ?_;rintro _ b5 ⟨rfl,h⟩;replace G:=J3 (G.on h);clear h;go_wp2_with fail;refine(expr_neg1 _ G.2.2.2.1 G.2.2.2.2.1).mono ?_;rintro _ b6 ⟨rfl,h⟩;replace G:=J3 (G.on h);clear h;go_wp2_with fail;refine(zla _ _).mono ?_;rintro _ b7 ⟨rfl,h⟩;replace G:=J3 (G.on h);clear h;go_wp2_with fail;refine(type_small _ G.2.2.2.1 G.2.2.2.2.1).mono ?_;rintro _ ac ⟨rfl,h⟩;replace G:=J3 (G.on h);clear h;obtain⟨bj,bt,bu,bv,bw⟩:=tc5 G.1;have bz:ac.frozen? ⟨rb,2,none⟩=false:=by simp[World.frozen?,(J0 G).1]
 have aH:=J2 bj;go_wp2_with fail;obtain⟨ap,bk⟩:=Ze (.slice (Zs ac.heap.size 0) 2 2:Value)
 have bl:(ac.setCell ⟨rb,2,none⟩ ap).heap.size=ac.heap.size:=by simp
 have bs:Below (g.alloc ptO).heap.size ac (ac.setCell ⟨rb,2,none⟩ ap):=(Yu _ _).setCell (p:=⟨rb,2,none⟩) a5 ap;have aE:Below (g.alloc ptO).heap.size ac ((ac.setCell ⟨rb,2,none⟩ ap).alloc (.cells #[.string ⟨#[97]⟩,.string ⟨#[97]⟩] 9)):=bs.alloc (Yh G.2.1.size bs.size) _;have b0:=G.2.1.trans aE;have U:=G.2.2.1.trans (aE.mono a4);have aF:=G.2.2.2.1.below aE (Yh ah a4);have aW:=hp1 (ac.setCell ⟨rb,2,none⟩ ap) (.cells #[.string ⟨#[97]⟩,.string ⟨#[97]⟩] 9);rw[bl]at aW;have aX:=type_twice (srow2 (s:=[97]) (u:=[97]) aW) (an.2.1.below b0) (TyRow.below b0 1 an.2.2) aF (Yh ah U.size);rw[bk]at aX U aF;refine aX.mono ?_;rintro _ b8 ⟨rfl,aY⟩;have bx:=bon U aY;have bA:=aF.below aY (Yh ah U.size);clear aX aW b0 aE bs bl bk aH bz bj bt bu bv bw U aF aY;go_wp2_with fail;refine(Stmts_nil _ bA (Yh ah bx.size)).mono ?_;rintro _ b9 ⟨rfl,bB⟩;go_wp2_with fail;go_ret;exact⟨rfl,bon bx bB⟩
end Go.Proofs.YtdcbglnhhbmpgaaGreatDoor
