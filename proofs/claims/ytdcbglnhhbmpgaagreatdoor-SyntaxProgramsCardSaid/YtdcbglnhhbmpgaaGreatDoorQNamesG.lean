import Derived.Test.YtdcbglnhhbmpgaaGreatDoorQSynC
set_option maxHeartbeats 4000000
set_option maxRecDepth 100000
namespace Go.Proofs.YtdcbglnhhbmpgaaGreatDoor
open Go Go.RowKit Lx
def zar (tk:Nat->List Tok) (i:Nat):List Tok:=(if 0<i then[tS [44]]else[])++tk i
theorem zef:∀(c:List Tok) (j:Nat) (t:Tok) (i:Nat) (u:Value),c[j]?=some t->(za0 t)[i]?=some u->(zbt c)[j*4+i]?=some u
 | [],j,t,i,u,h,_=>by simp at h
 | x::r,0,t,i,u,h,hu=>by
  simp at h;subst h;have g:i<(za0 x).length:=(YI.1 hu).1;show(za0 x++zbt r)[0*4+i]?=some u;rw[show 0*4+i=i from by omega,YC g];exact hu
 | x::r,j+1,t,i,u,h,hu=>by
  have s:=zef r j t i u (by simpa using h) hu;show(za0 x++zbt r)[(j+1)*4+i]?=some u;rw[Yv (by simp[za0];omega)];rw[show(j+1)*4+i-(za0 x).length=j*4+i from by simp[za0];omega];exact s
theorem addr_add (g k:Nat):(⟨g,0,none⟩:Addr).add k=⟨g,k,none⟩:=by
 by_cases h:k=0
 ·subst h;rfl
 ·simp[Addr.add,h]
theorem TokRow.of_owns {W:Zw} {base:Nat} {v:Value} {c:List Tok} (h:W.ownsRow base 112 4 v c.length (zbt c)):TokRow W v c:=by
 rcases h.2 with⟨rfl,u⟩|⟨g,cap,cur,rfl,x,r⟩
 ·refine⟨none,0,by rw[u],fun j t s=>?_⟩;rw[YB u]at s;simp at s
 ·refine⟨some ⟨g,0,none⟩,cap,rfl,fun j t s=>⟨g,0,rfl,?_,?_,?_,?_⟩⟩
  ·have:=h.cells (g:=g) rfl (j*4+0) _ (zef c j t 0 _ s rfl);rw[addr_add]at this;simpa[YR]using this
  ·have:=h.cells (g:=g) rfl (j*4+1) _ (zef c j t 1 _ s rfl);rw[addr_add]at this;simpa[YR]using this
  ·have:=h.cells (g:=g) rfl (j*4+2) _ (zef c j t 2 _ s rfl);rw[addr_add]at this;simpa[YR]using this
  ·have:=h.cells (g:=g) rfl (j*4+3) _ (zef c j t 3 _ s rfl);rw[addr_add]at this;simpa[YR]using this
theorem Ji:Fits []:=fun t h=>by simp at h
theorem Jd {a b:List Tok} (h:Fits a) (k:Fits b):Fits (a++b):=fun t c=>(YZ.1 c).elim (h t) (k t)
theorem fits_cons {t:Tok} {b:List Tok} (h:t.2.2.1.length<=35184372088832/\-9223372036854775808<=t.2.2.2/\t.2.2.2<=9223372036854775807) (k:Fits b):Fits (t::b):=fun u hu=>by
 rcases Xj.1 hu with rfl|hu
 ·exact h
 ·exact k u hu
theorem Jr {k:Int} {s:Bs} {b:List Tok} (h:s.length<=35184372088832) (c:Fits b):Fits ((0,k,s,0)::b):=fits_cons ⟨h,(show(-9223372036854775808:Int)<=0 by decide),(show(0:Int)<=9223372036854775807 by decide)⟩ c
theorem zj0 {α:Type} {l:List α} {f:α->List Tok} (h:∀a∈l,Fits (f a)):Fits (l.flatMap f):=fun t c=>by
 obtain⟨a,g,j⟩:=List.mem_flatMap.1 c;exact h a g t j
theorem putT_mem {c:List Tok} {x t:Tok} (h:t∈putT c x):t∈c∨t=x:=by
 unfold putT at h;split at h
 ·simpa using h
 ·exact .inl h
theorem zi4:∀(l c:List Tok),Fits c->Fits l->Fits (Jc c l)
 | [],_,h,_=>h
 | x::l,c,h,k=>zi4 l _ (fun t g=>(putT_mem g).elim (h t) (fun e=>e ▸ k x (by simp))) (fun t g=>k t (by simp[g]))
theorem zjl:∀(l c:List Tok),c.length+l.length<=32769->Jc c l=c++l
 | [],c,_=>by simp[Jc]
 | x::l,c,h=>by
  simp at h;rw[Jq,putT,Ye (by omega),zjl l _ (by simp;omega)];simp
theorem zi1 {α:Type} {l:List α} {i:Nat} {f:α->List Tok} (h:∀a∈l,Fits (f a)):Fits ((l[i]?.map f).getD []):=by
 rcases hi:l[i]? with _|a
 ·exact Ji
 ·exact h a (YK hi)
theorem zkh {l:List Bs} {i n:Nat} (h:∀s∈l,s.length<=n):(l.getD i []).length<=n:=by
 rw[Yo];rcases hi:l[i]? with _|a
 ·simp
 ·exact h a (YK hi)
theorem zcd:∀(d:Nat) (j:Bool) (g:List (Ty d)),za5 d g->∀t∈g,Fits (Jf d j t)
 | 0,_,_,_,t,_=>nomatch t
 | d+1,j,g,h,t,u=>by
  obtain⟨⟨f1,f2,f3,f4,f5⟩,hp⟩:=h.2 t u;have c:∀s i,Fits (((t.2.2.2.2)[i]?.map (Jf d s)).getD []):=fun s i=>zi1 fun a x=>zcd d s _ hp a x
  have r:Fits (tS [40]::((List.range (t.2.2.2.2.length-1)).flatMap fun i=>(if 0<i then[tS [44]]else[])++((t.2.2.2.2)[i]?.map (Jf d false)).getD [])++tS [41]::((t.2.2.2.2)[t.2.2.2.2.length-1]?.map (Jf d false)).getD []):=by
   refine Jd (Jr (by decide) (zj0 fun i _=>Jd ?_ (c _ _))) (Jr (by decide) (c _ _))
   split
   ·exact Jr (by decide) Ji
   ·exact Ji
  unfold Jf;simp only[]
  repeat' split
  ·exact r
  ·exact Jr (by decide) Ji
  ·exact Jr (by decide) Ji
  ·exact Jr (by decide) Ji
  ·exact Jr f1 Ji
  ·exact Jr (by decide) (c _ _)
  ·refine Jd (Jr (by decide) (zj0 fun i _=>Jd (Jd ?_ (Jr (zkh f3) (c _ _))) (Jr (by decide) Ji))) (Jr (by decide) Ji)
   split
   ·exact Jr (by decide) Ji
   ·exact Ji
  ·exact Jr (by decide) r
  ·exact Jd (Jr (by decide) (Jr (by decide) (zj0 fun i _=>Jd (Jr (zkh f3) (c _ _)) (Jr (by decide) Ji)))) (Jr (by decide) Ji)
  ·exact Ji
def Stays (w0:Zw) (b:Nat) (I:Zw->Prop):Prop:=∀W W',I W->Below w0.heap.size W W'->Stay b W W'->I W'
def Puts (w0:Zw) (b:Nat) (T:TypeId) (I:Zw->Prop) (F:FuncId) (args:Array Value) (tk:List Tok):Prop:=
 ∀c W,WrAt w0.heap.size b T c W->c.length<=32769->ZB w0 W->I W ->
  Zg F args W fun e w'=>e=.returned (.tuple #[])/\WrAt w0.heap.size b T (Jc c tk) w'/\Below w0.heap.size W w'/\Stay b W w'
theorem WrAt.alloc {base b:Nat} {T:TypeId} {c:List Tok} {w:Zw} (h:WrAt base b T c w) (O:Obj):WrAt base b T c (w.alloc O):=by
 obtain⟨g,j,v,r,s⟩:=h;exact⟨g,j,v,r.alloc O,s.alloc O⟩
theorem WrAt.lt {base b:Nat} {T:TypeId} {c:List Tok} {w:Zw} (h:WrAt base b T c w):b<w.heap.size:=by
 obtain⟨_,_,v,h,_⟩:=h;exact h.lt
theorem WrAt.drew {base b:Nat} {T:TypeId} {c:List Tok} {w:Zw} (h:WrAt base b T c w):WrAt base b T c w.drew:=by
 obtain⟨g,j,v,r,s⟩:=h;exact⟨g,j,v,r,s.drew⟩
theorem zas {B:Nat} {a w:Zw} (h:Below B a w):Below B a w.drew:=h.trans ⟨rfl,rfl,rfl,Y5 _,fun _ _=>rfl⟩
theorem zll {b:Nat} {a w:Zw} (h:Stay b a w):Stay b a w.drew:=h.trans ⟨Y5 _,fun _ _ h _ _=>h⟩
theorem Puts.drew {w0:Zw} {b:Nat} {T:TypeId} {I:Zw->Prop} {F:FuncId} {args:Array Value} {tk:List Tok} (h:Puts w0 b T I F args tk) {c:List Tok} {w:Zw} (hw:WrAt w0.heap.size b T c w) (g:c.length<=32769) (j:ZB w0 w) (r:I w.drew) :
  Zg F args w.drew fun e w'=>e=.returned (.tuple #[])/\WrAt w0.heap.size b T (Jc c tk) w'/\Below w0.heap.size w w'/\Stay b w w':=
 (h c w.drew hw.drew g (zas j) r).mono fun _ _ ⟨s,t,u,x⟩=>⟨s,t,(zas Zr).trans u,(zll (.refl _ _)).trans x⟩
theorem zcc (w0:Zw) (b:Nat) (T:TypeId) (I:Zw->Prop) (g:Stays w0 b I) (F:FuncId) (hF:∀args w,Sem.run Tryz.prog (callFunc F args) w=.ok (.enter F args) w) (h j:Value) (s1 s2:Bs) (tk:List Tok) (r:Puts w0 b T I F #[h,j] tk) :
  Puts w0 b T I 81 #[.pointer (Zs b 0),.string ⟨s1.toArray⟩,.func (.func F) #[] #[h,j],.string ⟨s2.toArray⟩] (tS s1::(tk++[tS s2])):=by
 intro ts w hw s t u;rw[Jq,J8,Jq,JE];have G:=J3 r;have J:=J3 hw;have M:=J3 t;have U:=J3 u;have V:=J3 g;clear r hw t u g;go_enter Tryz.func81,Tryz.ntmps81;go_wp2_with (go_at_call 67;refine(zcs w0.heap.size b T _ s1 _ J (by omega)).mono ?_;clear J;rintro x wa ⟨rfl,Y,c,L⟩);refine(G _ _ Y (zbk _ s) (M.trans c) (V _ _ U c L)).mono ?_;clear G;rintro x wb ⟨rfl,Z,aa,ab⟩;go_wp2_with (go_at_call 67;refine(zcs w0.heap.size b T _ s2 _ Z (Yh (zah _ _ (zbk _ s)) (by omega))).mono ?_;rintro x wc ⟨rfl,ac,ad,ae⟩);exact Yd (v:=.tuple #[]) (by simp[results,Tryz.results81,go_sem]) rfl ⟨rfl,ac,c.trans (aa.trans ad),L.trans (ab.trans ae)⟩
theorem between_any3 (w0:Zw) (b:Nat) (T:TypeId) (I:Zw->Prop) (g:Stays w0 b I) (F:FuncId) (hF:∀args w,Sem.run Tryz.prog (callFunc F args) w=.ok (.enter F args) w) (h j c3:Value) (s1 s2:Bs) (tk:List Tok) (r:Puts w0 b T I F #[h,j,c3] tk) :
  Puts w0 b T I 81 #[.pointer (Zs b 0),.string ⟨s1.toArray⟩,.func (.func F) #[] #[h,j,c3],.string ⟨s2.toArray⟩] (tS s1::(tk++[tS s2])):=by
 intro ts w hw s t u;rw[Jq,J8,Jq,JE];have G:=J3 r;have J:=J3 hw;have M:=J3 t;have U:=J3 u;have V:=J3 g;clear r hw t u g;go_enter Tryz.func81,Tryz.ntmps81;go_wp2_with (go_at_call 67;refine(zcs w0.heap.size b T _ s1 _ J (by omega)).mono ?_;clear J;rintro x wa ⟨rfl,Y,c,L⟩);refine(G _ _ Y (zbk _ s) (M.trans c) (V _ _ U c L)).mono ?_;clear G;rintro x wb ⟨rfl,Z,aa,ab⟩;go_wp2_with (go_at_call 67;refine(zcs w0.heap.size b T _ s2 _ Z (Yh (zah _ _ (zbk _ s)) (by omega))).mono ?_;rintro x wc ⟨rfl,ac,ad,ae⟩);exact Yd (v:=.tuple #[]) (by simp[results,Tryz.results81,go_sem]) rfl ⟨rfl,ac,c.trans (aa.trans ad),L.trans (ab.trans ae)⟩
theorem zgj (w0:Zw) (b:Nat) (T:TypeId) (I:Zw->Prop) (M:Stays w0 b I) (F:FuncId) (hF:∀args w,Sem.run Tryz.prog (callFunc F args) w=.ok (.enter F args) w) (U V:Value) (q:Nat) (hq:q<=1000000) (tk:Nat->List Tok) (Y:∀k:Nat,k<q->Puts w0 b T I F #[Zi k,U,V] (tk k)) :
  Puts w0 b T I 119 #[.pointer (Zs b 0),Zi q,.func (.func F) #[] #[U,V]] ((List.range q).flatMap (zar tk)):=by
 intro j w hw Z aa hi;have HP:=J3 Y;have HB:=J3 aa;have HW:=J3 hw;have HI:=J3 hi;have t:=J3 M;clear Y aa hw hi M;go_enter Tryz.func119,Tryz.ntmps119;go_wp2
 go_loopw [8] (fun i wr=>∃k:Nat,i=Zi k/\k<=q/\ZH (WrAt w0.heap.size b T (Jc j ((List.range k).flatMap (zar tk))) wr)/\ZH (Below w0.heap.size w wr)/\ZH (Stay b w wr)/\ZH (I wr)) (fun i _=>q-(intOf i).toNat)
 case atStart=>exact⟨0,rfl,by omega,HW,Zr,.refl _ _,HI⟩
 case round=>
  obtain⟨k,rfl,hk,r,s,u,HOr⟩:=hrel;by_cases af:k<q
  ·have ai:(k:Int)<(q:Int):=by omega
   have c:=J3 (zl5 j (zar tk) k);have G:(Jc j ((List.range k).flatMap (zar tk))).length<=32769:=zah _ _ Z;obtain⟨aj,ab⟩:∃x,x=Jc j ((List.range k).flatMap (zar tk)):=⟨_,rfl⟩
   rw[<-ab]at r c G;have ac:=HB.trans s;have CL:=J3 (J0 HP k af);clear ab Z HW HP;rw[zar]at c;by_cases h0:0<k
   ·have ak:(0:Int)<(k:Int):=by omega
    rw[Ye h0,J8,Jq,JE]at c;go_wp2_with (go_at_call 67;refine(zcs w0.heap.size b T _ [44] _ r (by omega)).mono ?_;rintro x wa ⟨rfl,ag,J,ad⟩;have ah:=ac.trans J;have ae:=t _ _ HOr J ad);refine(CL _ _ ag (zbk _ G) ah ae).mono ?_;rintro x wb ⟨rfl,L,g,h⟩;go_wp2;go_roundw
    case rel=>exact⟨k+1,by go_num,by omega,(by rw[J0 c];exact L),s.trans (J.trans g),u.trans (ad.trans h),t _ _ ae g h⟩
    case measure=>simp[intOf];omega
   ·obtain rfl:k=0:=by omega
    rw[Y7 h0,Xc]at c;go_wp2;refine(CL _ _ r G ac HOr).mono ?_;rintro x wb ⟨rfl,L,g,h⟩;go_wp2;go_roundw
    case rel=>exact⟨1,by go_num,by omega,(by rw[J0 c];exact L),s.trans g,u.trans h,t _ _ HOr g h⟩
    case measure=>simp[intOf];omega
  ·obtain rfl:k=q:=by omega
   go_wp2;exact Yd (v:=.tuple #[]) (by simp[results,Tryz.results119,go_sem]) rfl ⟨rfl,r,s,u⟩
theorem Stays.and {w0:Zw} {b:Nat} {I J:Zw->Prop} (h:Stays w0 b I) (k:Stays w0 b J):Stays w0 b (fun W=>I W/\J W):=fun W W' c g j=>⟨h W W' c.1 g j,k W W' c.2 g j⟩
theorem Stays.true (w0:Zw) (b:Nat):Stays w0 b (fun _=>True):=fun _ _ _ _ _=>trivial
theorem Stays.block {w0:Zw} {b p:Nat} {c:Array Value} {t:TypeId} {g:Nat×Nat} (h:p≠b) (j:t≠112):Stays w0 b (fun W=>W.heap[p]?=some (.cells c t g)):=
 fun W W' r _ s=>s.2 _ _ r h (fun u x e=>by injection e with _ e _;exact j e)
def TyPart (w0:Zw) (b:Nat) (T:TypeId) (F:FuncId) (pp:Zo) (k:Nat) (tk:List Tok):Prop:=
 ∃(g o:Nat) (c:Int) (h:Zy) (j r s:Zo) (t u x G I c3:Nat),pp=some ⟨g,o,none⟩/\w0.cell? ⟨g,o+k*5,none⟩=some (Zi c)/\w0.cell? ⟨g,o+k*5+1,none⟩=some (.string h) /\
   w0.cell? ⟨g,o+k*5+2,none⟩=some (.slice j t G)/\w0.cell? ⟨g,o+k*5+3,none⟩=some (.slice r u I)/\w0.cell? ⟨g,o+k*5+4,none⟩=some (.slice s x c3) /\
   Puts w0 b T (fun _=>True) F #[.pointer (Zs b 0),.agg #[Zi c,.string h,.slice j t G,.slice r u I,.slice s x c3]] tk
abbrev wBox (b:Nat):Obj:=.cells #[.pointer (Zs b 0)] 131
abbrev tBox (K:Int) (l:Zy) (pn pe pp:Zo) (n e q cn ce cp:Nat):Obj:=.cells #[Zi K,.string l,.slice pn n cn,.slice pe e ce,.slice pp q cp] 31
theorem sig11_any (w0:Zw) (b:Nat) (T:TypeId) (h j:Nat) (K:Int) (l:Zy) (pn pe pp:Zo) (n e q cn ce cp k:Nat) (M:k<q) (_hq:q<=1000000) (tk:List Tok) (u:TyPart w0 b T 50 pp k tk) :
  Puts w0 b T (fun W=>W.heap[h]?=some (wBox b)/\W.heap[j]?=some (tBox K l pn pe pp n e q cn ce cp)) 124 #[Zi k,.pointer (Zs h 0),.pointer (Zs j 0)] tk:=by
 intro U w hw G c r;obtain⟨g,o,V,Y,Z,p2,p3,n1,n2,n3,c1,c2,c3,rfl,a0,s,a2,a3,a4,wt⟩:=u;have d0:w.cell? ⟨h,0,none⟩=some (.pointer (Zs b 0)):=by rw[Y0 r.1];rfl
 have d4:w.cell? ⟨j,4,none⟩=some (.slice (Zs g o) q cp):=by rw[Y0 r.2];rfl
 have m0:=(c.cell (p:=⟨g,_,none⟩) (J2 a0)).trans a0;have m1:=(c.cell (p:=⟨g,_,none⟩) (J2 s)).trans s;have m2:=(c.cell (p:=⟨g,_,none⟩) (J2 a2)).trans a2;have m3:=(c.cell (p:=⟨g,_,none⟩) (J2 a3)).trans a3;have m4:=(c.cell (p:=⟨g,_,none⟩) (J2 a4)).trans a4;have aa:(k:Int)<(q:Int):=by omega
 have t:=J3 (wt.drew hw G c trivial);clear wt a0 s a2 a3 a4 r hw c;go_enter Tryz.func124,Tryz.ntmps124;go_wp2
 go_region_with (go_at_call 50;refine t.mono ?_;clear t;rintro x wb ⟨rfl,I,J,L⟩)
 all_goals
  go_wp2;exact Yd (v:=.tuple #[]) (by simp[results,Tryz.results124,go_sem]) rfl ⟨rfl,I,J,L⟩
theorem sig1_any (w0:Zw) (b:Nat) (T:TypeId) (c j h:Nat) (q:Nat) (I:Zw->Prop) (r:Stays w0 b I) (s:∀W,I W->W.heap[c]?=some (wBox b)) (t:∀W,I W->W.heap[h]?=some (.cells #[Zi q] 3)) (u:∀W,I W->I W.drew) (M:q<=1000000) (tk:Nat->List Tok)
  (G:∀k:Nat,k<q->Puts w0 b T I 124 #[Zi k,.pointer (Zs c 0),.pointer (Zs j 0)] (tk k)) :
  Puts w0 b T I 123 #[.pointer (Zs c 0),.pointer (Zs h 0),.pointer (Zs j 0)] ((List.range q).flatMap (zar tk)):=by
 intro ts w hw U J g;have d0:w.cell? ⟨c,0,none⟩=some (.pointer (Zs b 0)):=by rw[Y0 (s _ g)];rfl
 have d1:w.cell? ⟨h,0,none⟩=some (Zi q):=by rw[Y0 (t _ g)];rfl
 have L:=J3 ((zgj w0 b T I r _ (fun _ _=>by kernel_rfl) _ _ q M tk G).drew hw U J (u _ g));clear g hw J s t u G r;go_enter Tryz.func123,Tryz.ntmps123;go_wp2
 go_region_with (go_at_call 119;refine L.mono ?_;clear L;rintro x wb ⟨rfl,V,Y,Z⟩)
 all_goals
  go_wp2;exact Yd (v:=.tuple #[]) (by simp[results,Tryz.results123,go_sem]) rfl ⟨rfl,V,Y,Z⟩
def Ok (w0:Zw) (b:Nat) (T:TypeId) (I:Zw->Prop) (w:Zw) (c:List Tok) (W:Zw):Prop:=
 WrAt w0.heap.size b T c W/\c.length<=32769/\ZB w0 W/\Below w0.heap.size w W/\Stay b w W/\I W
theorem Stays.drew {w0:Zw} {b:Nat} {I:Zw->Prop} (h:Stays w0 b I) {W:Zw} (c:I W):I W.drew:=h W _ c (zas Zr) (zll (.refl _ _))
theorem Ok.drew {w0 w W:Zw} {b:Nat} {T:TypeId} {I:Zw->Prop} {c:List Tok} (g:Stays w0 b I) (h:Ok w0 b T I w c W):Ok w0 b T I w c W.drew:=
 ⟨h.1.drew,h.2.1,zas h.2.2.1,zas h.2.2.2.1,zll h.2.2.2.2.1,g.drew h.2.2.2.2.2⟩
theorem Puts.ok {w0 w W:Zw} {b:Nat} {T:TypeId} {I J:Zw->Prop} {F:FuncId} {args:Array Value} {c tk:List Tok} (h:Puts w0 b T J F args tk) (r:∀W,I W->J W) (s:Stays w0 b I) (ok:Ok w0 b T I w c W) :
  Zg F args W fun e w'=>e=.returned (.tuple #[])/\Ok w0 b T I w (Jc c tk) w':=
 (h c W ok.1 ok.2.1 ok.2.2.1 (r _ ok.2.2.2.2.2)).mono fun _ _ ⟨t,u,g,j⟩=>⟨t,u,zah _ _ ok.2.1,ok.2.2.1.trans g,ok.2.2.2.1.trans g,ok.2.2.2.2.1.trans j,s _ _ ok.2.2.2.2.2 g j⟩
theorem Ok.fin {w0 w W:Zw} {b:Nat} {T:TypeId} {I:Zw->Prop} {c g:List Tok} (h:Ok w0 b T I w g W) (e:g=c):Ending.returned (.tuple #[])=Ending.returned (.tuple #[])/\WrAt w0.heap.size b T c W/\Below w0.heap.size w W/\Stay b w W:=
 ⟨rfl,e ▸ h.1,h.2.2.2.1,h.2.2.2.2.1⟩
theorem Ok.of {w0 w:Zw} {b:Nat} {T:TypeId} {c:List Tok} {I:Zw->Prop} (hw:WrAt w0.heap.size b T c w) (g:c.length<=32769) (h:ZB w0 w) (j:I w):Ok w0 b T I w c w:=⟨hw,g,h,Zr,.refl _ _,j⟩
theorem Ok.box {w0 w W:Zw} {b:Nat} {T:TypeId} {j:List Tok} {I:Zw->Prop} (r:Stays w0 b I) (h:Ok w0 b T I w j W) (c:Array Value) (t:TypeId) (u:t≠112) :
  Ok w0 b T (fun V=>I V/\V.heap[W.heap.size]?=some (.cells c t)) w j (W.alloc (.cells c t))/\Stays w0 b (fun V=>I V/\V.heap[W.heap.size]?=some (.cells c t)):=by
 have g:Below w0.heap.size W (W.alloc (.cells c t)):=(Yu _ _).alloc h.2.2.1.size _;have s:Stay b W (W.alloc (.cells c t)):=.of_below (Za _ _);have x:=h.1.lt;exact⟨⟨h.1.alloc _,h.2.1,h.2.2.1.trans g,h.2.2.2.1.trans g,h.2.2.2.2.1.trans s,r _ _ h.2.2.2.2.2 g s,Jm _ _⟩,r.and (Stays.block (by omega) u)⟩
theorem JU (w0:Zw) (b:Nat) (T:TypeId) (s:Bs):Puts w0 b T (fun _=>True) 67 #[.pointer (Zs b 0),.string ⟨s.toArray⟩] [tS s]:=fun c w hw g _ _=>zcs w0.heap.size b T c s w hw (by omega)
theorem JH (w0:Zw) (b:Nat) (T:TypeId) (s:Bs):Puts w0 b T (fun _=>True) 65 #[.pointer (Zs b 0),.string ⟨s.toArray⟩] [tW s]:=fun c w hw g _ _=>wWord_any w0.heap.size b T c s w hw (by omega)
theorem zct (w0:Zw) (b:Nat) (T:TypeId) (s:Bs):Puts w0 b T (fun _=>True) 75 #[.pointer (Zs b 0),.string ⟨s.toArray⟩] [tN s]:=fun c w hw g _ _=>zi7 w0.heap.size b T c s w hw (by omega)
theorem zdq (w0:Zw) (b:Nat) (T:TypeId) (s:Bs):Puts w0 b T (fun _=>True) 66 #[.pointer (Zs b 0),.string ⟨s.toArray⟩] [tT s]:=fun c w hw g _ _=>wTypeName_any w0.heap.size b T c s w hw (by omega)
theorem quoted_puts (w0:Zw) (b:Nat) (T:TypeId) (s:Bs):Puts w0 b T (fun _=>True) 134 #[.pointer (Zs b 0),.string ⟨s.toArray⟩] [(0,5,s,0)]:=fun c w hw g _ _=>wQuoted_any w0.heap.size b T c s w hw (by omega)
theorem number_puts (w0:Zw) (b:Nat) (T:TypeId) (n:Int):Puts w0 b T (fun _=>True) 133 #[.pointer (Zs b 0),Zi n] [(0,4,[],n)]:=fun c w hw g _ _=>wNumber_any w0.heap.size b T c n w hw (by omega)
theorem sig_any (w0:Zw) (b:Nat) (T:TypeId) (K:Int) (l:Zy) (pn pe pp:Zo) (n e q m cn ce cp:Nat) (hm:m=q+1) (hq:m<=1000000) (tk:Nat->List Tok) (r:∀k,k<m->TyPart w0 b T 50 pp k (tk k)) :
  Puts w0 b T (fun _=>True) 84 #[.pointer (Zs b 0),.agg #[Zi K,.string l,.slice pn n cn,.slice pe e ce,.slice pp m cp]] (tS [40]::((List.range q).flatMap (zar tk)++[tS [41]])++tk q):=by
 intro s w hw J L _;obtain⟨M,U⟩:=(Ok.of (I:=fun _=>True) hw J L trivial).box (.true _ _) #[.pointer (Zs b 0)] 131 (by decide);obtain⟨j,Y⟩:=M.box U #[Zi K,.string l,.slice pn n cn,.slice pe e ce,.slice pp m cp] 31 (by decide);obtain⟨t,c⟩:=j.box Y #[Zi q] 3 (by decide);rw[show((w.alloc (.cells #[.pointer (Zs b 0)] 131)).alloc (.cells #[Zi K,.string l,.slice pn n cn,.slice pe e ce,.slice pp m cp] 31)).heap.size=w.heap.size+2 by simp,show(w.alloc (.cells #[.pointer (Zs b 0)] 131)).heap.size=w.heap.size+1 by simp]at t c;have e1:IntKind.i64.wrap ((m:Int)-1)=(q:Int):=by rw[YJ];omega
 have Z:∀W:Zw,_->_:=fun W h=>c.drew (W:=W) h
 have BT:=J3 ((between_any3 w0 b T _ c _ (fun _ _=>by kernel_rfl) _ _ _ [40] [41] _ (sig1_any w0 b T w.heap.size (w.heap.size+1) (w.heap.size+2) q _ c (fun W h=>h.1.1.2) (fun W h=>h.2) Z (by omega) tk (fun k hk=>fun s W h1 h2 h3 h4=>sig11_any w0 b T w.heap.size (w.heap.size+1) K l pn pe pp n e m cn ce cp k (by omega) hq (tk k) (r k (by omega)) s W h1 h2 h3 ⟨h4.1.1.2,h4.1.2⟩))).ok (fun _ h=>h) c t);obtain⟨g,o,K',l',p1,p2,p3,n1,n2,n3,c1,c2,c3,aa,a0,u,a2,a3,a4,wt⟩:=r q (by omega);have ab:(q:Int)<(m:Int):=by omega
 have FF:ZH (∀V:Zw,Ok w0 b T (fun V=>((True/\V.heap[w.heap.size]?=some (wBox b))/\V.heap[w.heap.size+1]?=some (tBox K l pn pe pp n e m cn ce cp))/\V.heap[w.heap.size+2]?=some (.cells #[Zi q] 3)) w (Jc s (tS [40]::((List.range q).flatMap (zar tk)++[tS [41]]))) V->V.cell? ⟨w.heap.size,0,none⟩=some (.pointer (Zs b 0))/\V.cell? ⟨w.heap.size+1,4,none⟩=some (.slice (Zs g o) m cp)/\V.cell? ⟨w.heap.size+1+1,0,none⟩=some (Zi q) /\
   ZK5 V g (o+q*5) (Zi K') (.string l') (.slice p1 n1 c1) (.slice p2 n2 c2) (.slice p3 n3 c3)):=fun V ok=>
  have h:=ok.2.2.1;have G:=ok.2.2.2.2.2
  ⟨by rw[Y0 G.1.1.2];rfl,by rw[Y0 G.1.2,aa];rfl,by rw[Y0 G.2];rfl,(h.cell (p:=⟨g,_,none⟩) (J2 a0)).trans a0,(h.cell (p:=⟨g,_,none⟩) (J2 u)).trans u,(h.cell (p:=⟨g,_,none⟩) (J2 a2)).trans a2,(h.cell (p:=⟨g,_,none⟩) (J2 a3)).trans a3,(h.cell (p:=⟨g,_,none⟩) (J2 a4)).trans a4⟩
 have WT:=J3 wt;have HS:=J3 c;clear wt a0 u a2 a3 a4 M j t U Y c Z r hw L J hm aa;go_enter Tryz.func84,Tryz.ntmps84;go_wp2_with (go_at_call 81;refine BT.mono ?_;clear BT;rintro x wa ⟨rfl,ok⟩;obtain⟨f0,f1,f2,m0,m1,m2,m3,m4⟩:=FF wa ok;have OK:=J3 ok;clear ok)
 go_region_with (go_at_call 50;refine(WT.ok (fun _ _=>trivial) HS (OK.drew HS)).mono ?_;clear WT;rintro x wb ⟨rfl,j⟩)
 all_goals
  go_wp2;exact Yd (v:=.tuple #[]) (by simp[results,Tryz.results84,go_sem]) rfl (j.fin (J8 _ _ _).symm)
end Go.Proofs.YtdcbglnhhbmpgaaGreatDoor
namespace Go.Proofs.YtdcbglnhhbmpgaaGreatDoor
open Go Go.RowKit Go.Maps Go.WideMaps Lx
def za8 (ns:List Bs):List Value:=ns.map fun s=>.string ⟨s.toArray⟩
def addN (ns:List Bs) (s:Bs):List Bs:=if s∈ns then ns else ns++[s]
def NlAt (base b m:Nat) (ns:List Bs) (W:Zw):Prop:=base<=b/\base<=m/\m≠b/\m<W.heap.size/\∃v,W.heap[b]?=some (.cells #[v,.map (some m)] 102)/\W.ownsRow base 9 1 v ns.length (za8 ns)/\W.ownsMap Tryz.prog 9 (unitElem (H:=Unit)) m ns.length (setB ns)
def StayN (b m:Nat) (W W':Zw):Prop:=W.heap.size<=W'.heap.size/\∀k o,W.heap[k]?=some o->k≠b->k≠m->(∀c g,o≠.cells c 9 g)->W'.heap[k]?=some o
theorem StayN.refl (b m:Nat) (W:Zw):StayN b m W W:=⟨Y5 _,fun _ _ h _ _ _=>h⟩
theorem StayN.trans {b m:Nat} {U V W:Zw} (h:StayN b m U V) (k:StayN b m V W):StayN b m U W:=⟨Yh h.1 k.1,fun j o s c g r=>k.2 j o (h.2 j o s c g r) c g r⟩
theorem StayN.of_below {b m:Nat} {W W':Zw} (h:ZB W W'):StayN b m W W':=⟨h.size,fun k _ c _ _ _=>(h.block k (Y8.1 c).1).trans c⟩
theorem NlAt.alloc {base b m:Nat} {ns:List Bs} {W:Zw} (h:NlAt base b m ns W) (O:Obj):NlAt base b m ns (W.alloc O):=by
 obtain⟨j,r,s,t,v,c,u,x⟩:=h;have g:ZB W (W.alloc O):=(Yu _ _).alloc (Y5 _) O;exact⟨j,r,s,by simp;omega,v,(g.block _ (Y8.1 c).1).trans c,u.alloc O,zds x g t⟩
theorem zhh {B:Nat} {a w:Zw} (h:Below B a w):Below B a w.drew:=h.trans ⟨rfl,rfl,rfl,Y5 _,fun _ _=>rfl⟩
theorem set_two {W:Zw} {b:Nat} {v u:Value} {t:TypeId} (h:W.heap[b]?=some (.cells #[v,u] t)) (c:Value):(W.setCell ⟨b,0,none⟩ c).heap[b]?=some (.cells #[c,u] t):=by
 obtain⟨g,j⟩:=Y8.1 h;show(W.heap.modify b _)[b]?=_;rw[Array.getElem?_eq_getElem (by rw[Array.size_modify];exact g),Array.getElem_modify_self,j]
 rfl
theorem zbd {P:Program} {ops:Array Oper} {o:Oper} {a:Act} {w:Zw} {K:Act->Zw->Prop} {Q:Exit->Act->Zw->Prop} {E:Prop} (c:o.guard=none) (f:FuncId) (x:Operand) (t:TypeId) (g:o.op=.call { callee:=.value (.func f),args:=#[x],argTypes:=#[t] })
  {u:Value} (j:a.eval x=u) (r:∀args w,Sem.run P (callFunc f args) w=.ok (.enter f args) w) (h:Calls P f #[u] w fun e w'=>∃v,e=.returned v/\K (a.put o.dst v) w'):if Region.wanted o (yielded ops a.tmps)=true then Oper.wp P o a w K Q else E:=by
 rw[Ye (by simp[Region.wanted,c])];unfold Oper.wp;have he:a.eval (.func f)=.func (.func f) #[] #[]:=rfl;simp[execOp,g,resolve,invoke,j,he,Deferred.ofValue,r];refine h.mono ?_;rintro e w' ⟨v,rfl,s⟩;exact s
theorem clone_enter (args:Array Value) (w:Zw):Sem.run Tryz.prog (callFunc 125 args) w=.ok (.enter 125 args) w:=by kernel_rfl
theorem zero_unit (w:Zw):(zeroValue 169).run Tryz.prog w=.ok (.agg #[]) w:=by kernel_rfl
theorem zi0:(Tryz.prog.info? 9).map (fun i=>(i.zero,i.size,i.bytes))=some (some (.string ⟨#[]⟩),1,16):=by kernel_rfl
theorem addName_old (base b m:Nat) (ns:List Bs) (s:Bs) (w:Zw) (h:NlAt base b m ns w) (J:s.length<=35184372088832) (r:base<=w.heap.size) (hm:s∈ns) :
  Zg 87 #[.pointer (Zs b 0),.string ⟨s.toArray⟩] w fun e w'=>e=.returned (.tuple #[])/\NlAt base b m ns w'/\Below base w w'/\StayN b m w w':=by
 have t:=J3 h;obtain⟨L,M,U,V,v,c,u,g⟩:=h;have Y:w.cell? ⟨b,1,none⟩=some (.map (some m)):=by rw[Y0 c];rfl
 have j:keyOf Tryz.prog 9 (.string ⟨s.toArray⟩)=some (keyB s):=keyOf_string_mk Tryz.underlying9 (by show s.toArray.size<=maxLen;unfold maxLen;simp;omega);have x:=J3 j;have G:=J3 g;have I:Maps.has (setB ns) (keyB s)=true:=(zk2 ns s).2 hm;clear j g c u hm;go_enter Tryz.func87,Tryz.ntmps87;go_wp2_with (first
  | (at_lookup;refine wpList_lookup_own_unit _ rfl _ _ 100 rfl 9 169 ziy Tryz.underlying100 (zero_unit _) m ns.length _ rfl G _ _ rfl x ?_;rw[I])
  | go_in)
 exact Yi (v:=.tuple #[]) (by simp[results,Tryz.results87,go_sem]) rfl ⟨rfl,t.alloc _,(Yu _ _).alloc r _,.of_below (Za _ _)⟩
theorem addName_new (base b m:Nat) (ns:List Bs) (s:Bs) (w:Zw) (h:NlAt base b m ns w) (hl:ns.length<1000000) (hs:s.length<=35184372088832) (ap:base<=w.heap.size) (hm:s∉ns) :
  Zg 87 #[.pointer (Zs b 0),.string ⟨s.toArray⟩] w fun e w'=>e=.returned (.tuple #[])/\NlAt base b m (ns++[s]) w'/\Below base w w'/\StayN b m w w':=by
 have HN:=J3 (h.alloc (.cells #[] 169));obtain⟨h1,h2,h3,h4,v,U,h6,h7⟩:=h;have aF:w.cell? ⟨b,1,none⟩=some (.map (some m)):=by rw[Y0 U];rfl
 have ai:keyOf Tryz.prog 9 (.string ⟨s.toArray⟩)=some (keyB s):=keyOf_string_mk Tryz.underlying9 (by show s.toArray.size<=maxLen;unfold maxLen;simp;omega);have HK:=J3 ai;have Y:=J3 h7;have aj:Maps.has (setB ns) (keyB s)=false:=(Yb _).mp fun e=>hm ((zk2 ns s).1 e)
 clear ai h7 U h6 hm;go_enter Tryz.func87,Tryz.ntmps87;go_wp2_with (first
  | (at_lookup;refine wpList_lookup_own_unit _ rfl _ _ 100 rfl 9 169 ziy Tryz.underlying100 (zero_unit _) m ns.length _ rfl Y _ _ rfl HK ?_;rw[aj];clear Y;obtain⟨_,_,_,_,v,U,h6,h7⟩:=J0 HN;have aq:=Y0 U;have Y:=J3 h7;clear h7)
  | (at_mapUpdate;refine wpList_mapUpdate_own _ rfl _ _ _ 100 rfl 9 169 ziy Tryz.underlying100 (unitElem (H:=Unit)) m ns.length _ rfl Y (by unfold maxLen;omega) _ _ _ rfl rfl HK _ [] unitElem_mk ?_;intro G ak Z)
  | go_in)
 have al:∃es clock,(w.alloc (Obj.cells #[] 169)).heap[m]?=some (.map es clock):=by obtain⟨es,clock,hh,_⟩:=J0 Y;exact⟨es,clock,hh⟩
 have ae:v.ownBlock≠some m:=by
  obtain⟨es,clock,hh⟩:=al;rcases h6.2 with⟨rfl,_⟩|⟨g,cap,cur,rfl,_,x,_⟩
  ·simp[Value.ownBlock]
  ·intro e;obtain rfl:g=m:=by simpa[Value.ownBlock]using e
   rw[hh]at x;simp at x
 have ar:b<(w.alloc (Obj.cells #[] 169)).heap.size:=(Y8.1 U).1;have ab:G.heap[b]?=some (.cells #[v,.map (some m)] 102):=(Z.block b ar (by simpa using fun e=>h3 e.symm)).trans U;have af:G.ownsRow base 9 1 v ns.length (za8 ns):=h6.kept Z (.inr ae);have ag:Below base w G:=((Yu _ _).alloc ap _).grown Z (by simp;omega) (fun j J=>by cases J;exact h2);have au:m<G.heap.size:=by have:=Z.size;simp at this;omega
 have aG:=ag.size;obtain⟨p,c,rfl⟩:∃p c,v=.slice p ns.length c:=by
  rcases af.2 with⟨rfl,e⟩|⟨g,cap,cur,rfl,_⟩
  ·exact⟨none,0,by rw[e]⟩
  ·exact⟨_,_,rfl⟩
 have c0:G.cell? ⟨b,0,none⟩=some (.slice p ns.length c):=by rw[Y0 ab];rfl
 obtain⟨i0,hi,am,an,ao⟩:=Xx zi0;have AP:ZH (∀t:Zw,Below G.heap.size G.drew t->t.cell? ⟨b,0,none⟩=some (.slice p ns.length c)/\(t.alloc (.cells #[.string ⟨s.toArray⟩] 9)).cell? ⟨b,0,none⟩=some (.slice p ns.length c)/\∃(I L:Nat) (W':Zw),(Builtin.append_ #[27,27] 27 #[.slice p ns.length c,.slice (Zs t.heap.size 0) 1 1]).run Tryz.prog (t.alloc (.cells #[.string ⟨s.toArray⟩] 9))=.ok (.slice (Zs I 0) (ns.length+1) L) W'/\W'.cell? ⟨b,0,none⟩=some (.slice p ns.length c)/\W'.frozen? ⟨b,0,none⟩=false /\
   NlAt base b m (ns++[s]) (W'.setCell ⟨b,0,none⟩ (.slice (Zs I 0) (ns.length+1) L))/\Below base w (W'.setCell ⟨b,0,none⟩ (.slice (Zs I 0) (ns.length+1) L))/\StayN b m w (W'.setCell ⟨b,0,none⟩ (.slice (Zs I 0) (ns.length+1) L))):=fun t M=>by
  have aH:G.heap.size<=t.heap.size:=M.size;have ac:Below base w t:=ag.trans ((zhh Zr).trans (M.mono (by omega)));have V:t.heap[b]?=some (.cells #[.slice p ns.length c,.map (some m)] 102):=(M.block b (Y8.1 ab).1).trans ab;have hR:t.ownsRow base 9 1 (.slice p ns.length c) ns.length (za8 ns):=af.drew.kept (Je (W:=G.drew) (W':=t) M) (by cases (Value.slice p ns.length c).ownBlock <;> simp);have hM:t.ownsMap Tryz.prog 9 (unitElem (H:=Unit)) m (ns.length+1) ((setB ns).put (keyB s) (.agg [])):=zds (w:=G.drew) ak M au;obtain⟨v',W',E,ah,aa,_⟩:=run_append_own (P:=Tryz.prog) (t.alloc (.cells #[.string ⟨s.toArray⟩] 9)) base 27 27 9 i0 (.string ⟨#[]⟩) 1 16 Tryz.underlying27 hi am an ao rfl (by decide) _ _ _ (hR.alloc (.cells #[.string ⟨s.toArray⟩] 9)) ⟨t.heap.size,0,none⟩ 1 1 [.string ⟨s.toArray⟩] rfl
   (fun j u J=>by
    match j,J with
    | 0,J=>simp at J;subst J;rw[YT,Ya _ _ _ _ (by simp)];rfl
    | j+1,J=>simp at J)
   (by intro u hu;simp at hu;subst hu;rfl) (by unfold maxLen;omega) (by omega) (by simp;omega)
  obtain⟨I,L,rfl⟩:=ownsRow_succ ah;have av:some b≠(Value.slice p ns.length c).ownBlock:=by
   rcases hR.2 with⟨e,_⟩|⟨g,cap,cur,e,_,x,_⟩
   ·rw[e];simp[Value.ownBlock]
   ·rw[e];intro e2;obtain rfl:b=g:=by simpa[Value.ownBlock]using e2
    rw[V]at x;injection x with x
    injection x with _ x _
    exact absurd x (by decide)
  have ad:W'.heap[b]?=some (.cells #[.slice p ns.length c,.map (some m)] 102):=(aa.block b (by have:=(Y8.1 V).1;simp;omega) av).trans ((((Yu t.heap.size t).alloc (Y5 _) _).block _ (Y8.1 V).1).trans V);have aw:W'.ownsMap Tryz.prog 9 (unitElem (H:=Unit)) m (ns.length+1) ((setB ns).put (keyB s) (.agg [])):=by
   obtain⟨es,clock,q1,r⟩:=hM;exact⟨es,clock,(aa.block m (by simp;omega) (fun e=>ae e.symm)).trans ((((Yu t.heap.size t).alloc (Y5 _) _).block _ (by omega)).trans q1),r⟩
  have ax:=aa.size;simp at ax;have ay:=(((Yu t.heap.size t).alloc (Y5 _) (.cells #[.string ⟨s.toArray⟩] 9)).block _ (Y8.1 V).1).trans V;refine⟨by rw[Y0 V];rfl,by rw[Y0 ay];rfl,I,L,W',E,by rw[Y0 ad];rfl,by simp[World.frozen?,ad],⟨h1,h2,h3,by simp;omega,.slice (Zs I 0) (ns.length+1) L,?_,?_,?_⟩,?_,?_⟩
  ·exact set_two ad _
  ·rw[za8,Yj,Y9];refine ah.kept (grownBy_setCell' W' b _) (.inr fun e=>?_);rcases ah.2 with⟨e',_⟩|⟨g,cap,cur,e',_,x,_⟩
   ·cases e'
   ·obtain rfl:I=b:=by simpa[Value.ownBlock]using e
    injection e' with e1 _ _
    obtain rfl:I=g:=by simpa using e1
    rw[ad]at x;injection x with x
    injection x with _ x _
    exact absurd x (by decide)
  ·rw[zmv,Y9];obtain⟨es,clock,q1,r⟩:=aw;exact⟨es,clock,(XC _ _ _ _ h3).trans q1,r⟩
  ·refine((ac.alloc (by have:=ac.size;omega) _).grown aa (by simp;have:=ac.size;omega) fun j ej=>?_).setCell (p:=⟨b,0,none⟩) h1 _;rcases hR.2 with⟨e,_⟩|⟨g,cap,cur,e,hb,_,_⟩
   ·rw[e]at ej;simp[Value.ownBlock]at ej
   ·rw[e]at ej;obtain rfl:g=j:=by simpa[Value.ownBlock]using ej
    exact hb
  ·refine⟨by have:=ac.size;simp;omega,fun k o hk n1 n2 n3=>?_⟩;have az:=(Y8.1 hk).1;have k1:(w.alloc (Obj.cells #[] 169)).heap[k]?=some o:=(((Yu w.heap.size w).alloc (Y5 _) _).block _ az).trans hk;have k2:G.heap[k]?=some o:=(Z.block k (Y8.1 k1).1 (by simpa using n2)).trans k1;have k3:t.heap[k]?=some o:=(M.block k (Y8.1 k2).1).trans k2;have k4:(t.alloc (.cells #[.string ⟨s.toArray⟩] 9)).heap[k]?=some o:=(((Yu t.heap.size t).alloc (Y5 _) _).block _ (Y8.1 k3).1).trans k3;have aA:some k≠(Value.slice p ns.length c).ownBlock:=by
    rcases hR.2 with⟨e,_⟩|⟨g,cap,cur,e,_,x,_⟩
    ·rw[e];simp[Value.ownBlock]
    ·rw[e];intro e2;obtain rfl:k=g:=by simpa[Value.ownBlock]using e2
     rw[k3]at x;exact n3 _ _ (Y1 x)
   exact(XC _ _ _ _ n1).trans ((aa.block k (Y8.1 k4).1 aA).trans k4)
 have aB:=J3 (Clone_any ⟨s.toArray⟩ G.drew (by show s.toArray.size<=_;simp;omega));have aI:G.drew.cell? ⟨b,0,none⟩=some (.slice p ns.length c):=c0;clear U h6 aq ae ab af ag ak Z al Y HN HK aj hi am an ao
 go_region_law (first
  | (refine zbd (u:=.string ⟨s.toArray⟩) rfl 125 (.tmp 27) 9 rfl (by simp[Act.eval,Act.put]) clone_enter ?_;refine aB.mono ?_;rintro e t ⟨rfl,M⟩;refine⟨_,rfl,?_⟩;obtain⟨c3,c4,I,L,W',E,d0,d1,aC,aD,aE⟩:=AP t M)
  | refine zac rfl (.tmp 26) (.tmp 29) 27 rfl (by simp[Act.eval]) (by simp[Act.eval]) E ?_)
 all_goals
  go_wp2_with fail;exact Yd (v:=.tuple #[]) (by simp[results,Tryz.results87,go_sem]) rfl ⟨rfl,aC,aD,aE⟩
theorem addName_any (base b m:Nat) (ns:List Bs) (s:Bs) (w:Zw) (h:NlAt base b m ns w) (j:ns.length<1000000) (c:s.length<=35184372088832) (g:base<=w.heap.size) :
  Zg 87 #[.pointer (Zs b 0),.string ⟨s.toArray⟩] w fun e w'=>e=.returned (.tuple #[])/\NlAt base b m (addN ns s) w'/\Below base w w'/\StayN b m w w':=by
 unfold addN;by_cases hm:s∈ns
 ·rw[Ye hm];exact addName_old base b m ns s w h c g hm
 ·rw[Y7 hm];exact addName_new base b m ns s w h j c g hm
def zci:(d:Nat)->List Bs->List (Ty d)->List Bs
 | 0,ns,_=>ns
 | d+1,ns,c=>c.foldl (fun n t=>zci d (if t.1=4 then addN n t.2.1 else n) t.2.2.2.2) ns
theorem addN_len (ns:List Bs) (s:Bs):(addN ns s).length<=ns.length+1:=by
 unfold addN;split
 ·omega
 ·simp
theorem addTs_snoc (d:Nat) (ns:List Bs) (c:List (Ty (d+1))) (t:Ty (d+1)):zci (d+1) ns (c++[t])=zci d (if t.1=4 then addN (zci (d+1) ns c) t.2.1 else zci (d+1) ns c) t.2.2.2.2:=by
 rw[zci,zci,List.foldl_append];rfl
theorem addTs_cons (d:Nat) (ns:List Bs) (c:List (Ty (d+1))) (t:Ty (d+1)):zci (d+1) ns (t::c)=zci (d+1) (zci d (if t.1=4 then addN ns t.2.1 else ns) t.2.2.2.2) c:=by
 rw[zci,zci,List.foldl_cons]
theorem zmp:∀(d:Nat) (c:List (Ty d)) (ns:List Bs),(zci d ns c).length<=ns.length+many d c
 | 0,_,_=>by simp[zci,many]
 | _+1,[],_=>by simp[zci,many]
 | d+1,t::r,ns=>by
  rw[addTs_cons,many];have g:=zmp (d+1) r (zci d (if t.1=4 then addN ns t.2.1 else ns) t.2.2.2.2);have h:=zmp d t.2.2.2.2 (if t.1=4 then addN ns t.2.1 else ns);have j:(if t.1=4 then addN ns t.2.1 else ns).length<=ns.length+1:=by
   split
   ·exact addN_len _ _
   ·omega
  omega
theorem addTs_take {d:Nat} {ns:List Bs} {c:List (Ty (d+1))} {k:Nat} (h:k<c.length):zci (d+1) ns (c.take (k+1))=zci d (if c[k].1=4 then addN (zci (d+1) ns (c.take k)) c[k].2.1 else zci (d+1) ns (c.take k)) c[k].2.2.2.2:=by
 rw[Yq h,addTs_snoc]
def AddAt (w0:Zw) (d:Nat):Prop:=∀(b m:Nat) (ns:List Bs) (v:Value) (c:List (Ty d)) (w:Zw),NlAt w0.heap.size b m ns w->TyRow w0 d v c->za5 d c->ns.length+many d c<=1000000->ZB w0 w ->
 Zg 51 #[.pointer (Zs b 0),v] w fun e w'=>e=.returned (.tuple #[])/\NlAt w0.heap.size b m (zci d ns c) w'/\Below w0.heap.size w w'/\StayN b m w w'
theorem add_none (w0:Zw):AddAt w0 0:=fun b m ns v r w g h _ _ _=>by
 obtain⟨p,c,rfl⟩:=h;have j:=J3 g;clear g;go_enter Tryz.func51,Tryz.ntmps51;go_wp2
 go_loopw [8] (fun i wr=>i=Zi 0/\wr=w) (fun _ _=>0)
 case atStart=>exact⟨rfl,rfl⟩
 case round=>
  obtain⟨rfl,rfl⟩:=hrel;go_wp2;exact Yd (v:=.tuple #[]) (by simp[results,Tryz.results51,go_sem]) rfl ⟨rfl,j,Zr,.refl _ _ _⟩
theorem NlAt.lt {base b m:Nat} {ns:List Bs} {W:Zw} (h:NlAt base b m ns W):b<W.heap.size/\m<W.heap.size:=by
 obtain⟨j,r,s,c,v,g,t,u⟩:=h;exact⟨(Y8.1 g).1,c⟩
theorem add_step (w0:Zw) (d:Nat) (IH:AddAt w0 d):AddAt w0 (d+1):=fun b m ns v h w hn hv hf hm ab=>by
 obtain⟨p,c,rfl,hp⟩:=hv;have HP:=J3 hp;have HF:=J3 hf.2;have HN:=J3 hn;have HI:=J3 IH;have hlen:=zbh _ h;have am:=ab.size;have ag:=J3 ab;clear hp hf hn IH ab;go_enter Tryz.func51,Tryz.ntmps51;go_wp2
 go_loopw [8] (fun i wr=>∃k:Nat,i=Zi k/\k<=h.length/\ZH (NlAt w0.heap.size b m (zci (d+1) ns (h.take k)) wr)/\ZH (Below w0.heap.size w wr)/\ZH (StayN b m w wr)) (fun i _=>h.length-(intOf i).toNat)
 case atStart=>exact⟨0,rfl,by omega,(by show NlAt _ _ _ _ _;simpa[zci]using J0 HN),Zr,.refl _ _ _⟩
 case round=>
  obtain⟨k,rfl,hk,r,ac,ah⟩:=hrel;by_cases ad:k<h.length
  ·obtain⟨g,o,vn,ve,vp,rfl,a0,M,a2,a3,a4,r1,r2,U⟩:=HP k h[k] (by simp[ad]);have an:(k:Int)<(h.length:Int):=by omega
   obtain⟨q1,q2⟩:=HF h[k] (by simp);obtain⟨pn,cn,rfl,_⟩:=r1;obtain⟨pe,ce,rfl,_⟩:=r2;obtain⟨pp,cp,rfl⟩:=U.slice;have j:=ag.trans ac;have b0:=(j.cell (p:=⟨g,_,none⟩) (J2 a0)).trans a0;have b1:=(j.cell (p:=⟨g,_,none⟩) (J2 M)).trans M;have b2:=(j.cell (p:=⟨g,_,none⟩) (J2 a2)).trans a2;have b3:=(j.cell (p:=⟨g,_,none⟩) (J2 a3)).trans a3;have b4:=(j.cell (p:=⟨g,_,none⟩) (J2 a4)).trans a4;have ai:w0.heap.size<=wr.heap.size:=j.size;obtain⟨ao,ap⟩:=r.lt;have G:=J3 (addTs_take (ns:=ns) ad);have aq:=many_at ad;have aj:=zmp (d+1) (h.take k) ns;obtain⟨V,ae⟩:=Ze (zci (d+1) ns (h.take k))
   rw[<-ae]at r G aj;obtain⟨O,s⟩:=Ze (.cells #[Zi h[k].1,.string ⟨h[k].2.1.toArray⟩,.slice pn h[k].2.2.1.length cn,.slice pe h[k].2.2.2.1.length ce,.slice pp h[k].2.2.2.2.length cp] 31:Obj)
   have Y:Below w0.heap.size w (wr.alloc O):=ac.alloc ai O;have Z:StayN b m w (wr.alloc O):=ah.trans (.of_below ((Yu _ _).alloc (Y5 _) O));have aa:=r.alloc O;have af:=Jm wr O
   -- add at the parts,in a world behind
   have AD:ZH (∀(I:List Bs) (W:Zw),NlAt w0.heap.size b m I W->I.length<=V.length+1->Below w0.heap.size w W->StayN b m w W->Zg 51 #[.pointer (Zs b 0),.slice pp h[k].2.2.2.2.length cp] W fun e w'=>e=.returned (.tuple #[])/\NlAt w0.heap.size b m (zci d I h[k].2.2.2.2) w'/\Below w0.heap.size w w'/\StayN b m w w'):=fun I W h1 h2 h3 t=>
    (HI b m I _ _ W h1 U q2 (by omega) (ag.trans h3)).mono fun _ _ ⟨e,J,L,u⟩=>⟨e,J,h3.trans L,t.trans u⟩
   by_cases t:h[k].1=4
   ·rw[Ye t]at G;have AN:ZH (Zg 87 #[.pointer (Zs b 0),.string ⟨h[k].2.1.toArray⟩] (wr.alloc O) fun e w'=>e=.returned (.tuple #[])/\NlAt w0.heap.size b m (addN V h[k].2.1) w'/\Below w0.heap.size w w'/\StayN b m w w'/\w'.cell? ⟨wr.heap.size,4,none⟩=some (.slice pp h[k].2.2.2.2.length cp)):=
     (addName_any w0.heap.size b m V h[k].2.1 (wr.alloc O) aa (by omega) q1.1 (by simp;omega)).mono fun _ w' ⟨e,J,L,u⟩=>⟨e,J,Y.trans L,Z.trans u,by
      have:=u.2 _ _ af (by omega) (by omega) (fun c fz e=>by rw[s]at e;injection e with _ e _;exact absurd e (by decide));rw[s]at this;rw[Y0 this];rfl⟩
    rw[s]at AN;rw[t]at b0 AN;have ak:=addN_len V h[k].2.1;clear a0 M a2 a3 a4 U j Y Z aa af s ae r HP HF HI HN q1 q2;go_wp2_with (first
     | (go_at_call 87;refine AN.mono ?_;clear AN;rintro x w1 ⟨rfl,J,L,u,x4⟩;have AC:=J3 (J0 AD _ _ J ak L u);clear AD)
     | (go_at_call 51;refine AC.mono ?_;clear AC;rintro x w2 ⟨rfl,y1,y2,y3⟩))
    go_roundw
    case rel=>exact⟨k+1,by go_num,by omega,(by rw[J0 G];exact y1),y2,y3⟩
    case measure=>simp[intOf];omega
   ·rw[Y7 t]at G;have ar:(h[k].1==4)=false:=Y3.2 t;have AC:=J3 (J0 AD _ _ aa (by omega) Y Z);rw[s]at AC;clear a0 M a2 a3 a4 U j Y Z aa af s ae r HP HF HI HN q1 q2 AD;go_wp2_with (go_at_call 51;refine AC.mono ?_;clear AC;rintro x w2 ⟨rfl,y1,y2,y3⟩);go_roundw
    case rel=>exact⟨k+1,by go_num,by omega,(by rw[J0 G];exact y1),y2,y3⟩
    case measure=>simp[intOf];omega
  ·have al:k=h.length:=by omega
   subst al;rw[Yr]at r;go_wp2;exact Yd (v:=.tuple #[]) (by simp[results,Tryz.results51,go_sem]) rfl ⟨rfl,r,ac,ah⟩
theorem add_any (w0:Zw):∀d,AddAt w0 d
 | 0=>add_none w0
 | d+1=>add_step w0 d (add_any w0 d)
theorem Names_any (d:Nat) (v:Value) (g:List (Ty d)) (w:Zw) (h:TyRow w d v g) (r:za5 d g) (hm:many d g<=1000000) :
  Zg 22 #[v] w fun e w'=>ZB w w'/\∃u,e=.returned u/\w'.ownsRow w.heap.size 9 1 u (zci d [] g).length (za8 (zci d [] g)):=by
 have j:ZB w ((w.alloc (.map #[] 0)).alloc (.cells #[Zz,.map (some w.heap.size)] 102)):=(Za _ _).alloc (by simp) _;have s:NlAt w.heap.size (w.heap.size+1) w.heap.size [] ((w.alloc (.map #[] 0)).alloc (.cells #[Zz,.map (some w.heap.size)] 102)):=by
  refine⟨by omega,Y5 _,by omega,by simp;omega,Zz,by simpa using Jm (w.alloc (.map #[] 0)) _,YU _ _ _ _,?_⟩;exact zds (World.ownsMap_made w Tryz.prog _ _) ((Yu (w.alloc (.map #[] 0)).heap.size _).alloc (Y5 _) _) (by simp)
 have t:ZH (Zg 51 #[.pointer (Zs (w.heap.size+1) 0),v] ((w.alloc (.map #[] 0)).alloc (.cells #[Zz,.map (some w.heap.size)] 102)) fun e w'=>e=.returned (.tuple #[])/\ZB w w'/\∃u,w'.cell? ⟨w.heap.size+1,0,none⟩=some u/\w'.ownsRow w.heap.size 9 1 u (zci d [] g).length (za8 (zci d [] g))):=
  (add_any w d (w.heap.size+1) w.heap.size [] v g _ s h r (by simpa using hm) j).mono fun _ w' ⟨e,G,I,_⟩=>by
   obtain⟨_,_,_,_,u,J,L,_⟩:=G;exact⟨e,j.trans I,u,by rw[Y0 J];rfl,L⟩
 obtain⟨p,c,rfl⟩:=h.slice;have V:=@run_makeMap Tryz.prog;clear j s h r hm;go_enter Tryz.func22,Tryz.ntmps22;go_wp2_with (go_at_call 51;refine t.mono ?_;clear t;rintro x w1 ⟨rfl,M,u,hu,U⟩);go_ret;exact⟨M,u,rfl,U⟩
end Go.Proofs.YtdcbglnhhbmpgaaGreatDoor
