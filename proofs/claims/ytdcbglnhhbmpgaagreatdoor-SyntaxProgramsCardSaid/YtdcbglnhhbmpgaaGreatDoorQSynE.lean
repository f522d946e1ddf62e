import Derived.Test.YtdcbglnhhbmpgaaGreatDoorQNamesG
set_option maxHeartbeats 4000000
set_option maxRecDepth 100000
namespace Go.Proofs.YtdcbglnhhbmpgaaGreatDoor
open Go Go.RowKit Lx
theorem type1_any (w0:Zw) (b:Nat) (T:TypeId) (j c:Nat) (K:Int) (l:Zy) (pn pe pp:Zo) (q cn ce cp:Nat) (I:q<=1000000) (nm:Nat->Bs) (em:Nat->Bool) (tk:Nat->List Tok)
  (r:∀k,k<q->∃g o,pn=some ⟨g,o,none⟩/\w0.cell? ⟨g,o+k,none⟩=some (.string ⟨(nm k).toArray⟩))
  (s:∀k,k<q->∃g o,pe=some ⟨g,o,none⟩/\w0.cell? ⟨g,o+k,none⟩=some (.bool (em k)))
  (t:∀k,k<q->TyPart w0 b T 50 pp k (tk k)) :
  Puts w0 b T (fun W=>W.heap[j]?=some (wBox b)/\W.heap[c]?=some (tBox K l pn pe pp q q q cn ce cp)) 82 #[.pointer (Zs j 0),.pointer (Zs c 0)] ((List.range q).flatMap (zm6 nm em tk)):=by
 intro J w hw L u h;have G:=J3 (fields_run w0 b T J K l q pn pe pp cn ce cp w nm em tk hw L u I r s (fun k M=>by
  obtain⟨g,o,U,V,Y,Z,p3,n1,n2,n3,c1,c2,c3,e,a0,a1,a2,a3,a4,wt⟩:=t k M;exact⟨g,o,U,V,Y,Z,p3,n1,n2,n3,c1,c2,c3,e,a0,a1,a2,a3,a4,fun aa W x y z=>wt aa W x y z trivial⟩))
 have d0:w.cell? ⟨j,0,none⟩=some (.pointer (Zs b 0)):=by rw[Y0 h.1];rfl
 have e0:w.cell? ⟨c,0,none⟩=some (Zi K):=by rw[Y0 h.2];rfl
 have e1:w.cell? ⟨c,1,none⟩=some (.string l):=by rw[Y0 h.2];rfl
 have e2:w.cell? ⟨c,2,none⟩=some (.slice pn q cn):=by rw[Y0 h.2];rfl
 have e3:w.cell? ⟨c,3,none⟩=some (.slice pe q ce):=by rw[Y0 h.2];rfl
 have e4:w.cell? ⟨c,4,none⟩=some (.slice pp q cp):=by rw[Y0 h.2];rfl
 clear h hw u t r s;go_enter Tryz.func82,Tryz.ntmps82;go_wp2_with (go_at_call 83;refine G.mono ?_;clear G;rintro x wb ⟨rfl,ab,ac,ad⟩);exact Yd (v:=.tuple #[]) (by simp[results,Tryz.results82,go_sem]) rfl ⟨rfl,ab,ac,ad⟩
theorem type2_any (w0:Zw) (b:Nat) (T:TypeId) (j c:Nat) (K:Int) (l:Zy) (pn pe pp:Zo) (q e cn ce cp:Nat) (G:q<=1000000) (nm:Nat->Bs) (tk:Nat->List Tok)
  (r:∀k,k<q->∃g o,pn=some ⟨g,o,none⟩/\w0.cell? ⟨g,o+k,none⟩=some (.string ⟨(nm k).toArray⟩))
  (s:∀k,k<q->TyPart w0 b T 84 pp k (tk k)) :
  Puts w0 b T (fun W=>W.heap[j]?=some (wBox b)/\W.heap[c]?=some (tBox K l pn pe pp q e q cn ce cp)) 85 #[.pointer (Zs j 0),.pointer (Zs c 0)] ((List.range q).flatMap (zhn nm tk)):=by
 intro I w hw J t h;have u:=J3 (methods_run w0 b T I K l q e pn pe pp cn ce cp w nm tk hw J t G r (fun k L=>by
  obtain⟨g,o,M,U,V,Y,Z,n1,n2,n3,c1,c2,c3,e,a0,a1,a2,a3,a4,wt⟩:=s k L;exact⟨g,o,M,U,V,Y,Z,n1,n2,n3,c1,c2,c3,e,a0,a1,a2,a3,a4,fun aa W x y z=>wt aa W x y z trivial⟩))
 have d0:w.cell? ⟨j,0,none⟩=some (.pointer (Zs b 0)):=by rw[Y0 h.1];rfl
 have e0:w.cell? ⟨c,0,none⟩=some (Zi K):=by rw[Y0 h.2];rfl
 have e1:w.cell? ⟨c,1,none⟩=some (.string l):=by rw[Y0 h.2];rfl
 have e2:w.cell? ⟨c,2,none⟩=some (.slice pn q cn):=by rw[Y0 h.2];rfl
 have e3:w.cell? ⟨c,3,none⟩=some (.slice pe e ce):=by rw[Y0 h.2];rfl
 have e4:w.cell? ⟨c,4,none⟩=some (.slice pp q cp):=by rw[Y0 h.2];rfl
 clear h hw t s r;go_enter Tryz.func85,Tryz.ntmps85;go_wp2_with (go_at_call 86;refine u.mono ?_;clear u;rintro x wb ⟨rfl,ab,ac,ad⟩);exact Yd (v:=.tuple #[]) (by simp[results,Tryz.results85,go_sem]) rfl ⟨rfl,ab,ac,ad⟩
def Box2 (b c g:Nat) (K:Int) (l:Zy) (pn pe pp:Zo) (n e q cn ce cp:Nat) (W:Zw):Prop:=W.heap[c]?=some (wBox b)/\W.heap[g]?=some (tBox K l pn pe pp n e q cn ce cp)
theorem Box2.stays {w0:Zw} {b c g:Nat} (h:c≠b) (j:g≠b) (K:Int) (l:Zy) (pn pe pp:Zo) (n e q cn ce cp:Nat):Stays w0 b (Box2 b c g K l pn pe pp n e q cn ce cp):=
 (Stays.block h (by decide)).and (Stays.block j (by decide))
theorem Box2.cells {b c g:Nat} {K:Int} {l:Zy} {pn pe pp:Zo} {n e q cn ce cp:Nat} {W:Zw} (h:Box2 b c g K l pn pe pp n e q cn ce cp W) :
  W.cell? ⟨c,0,none⟩=some (.pointer (Zs b 0))/\ZL5 W g (Zi K) (.string l) (.slice pn n cn) (.slice pe e ce) (.slice pp q cp):=
 ⟨by rw[Y0 h.1];rfl,by rw[Y0 h.2];rfl,by rw[Y0 h.2];rfl,by rw[Y0 h.2];rfl,by rw[Y0 h.2];rfl,by rw[Y0 h.2];rfl⟩
theorem boxes2 {w0 w:Zw} {b:Nat} {T:TypeId} {c:List Tok} (hw:WrAt w0.heap.size b T c w) (h:c.length<=32769) (j:ZB w0 w) (K:Int) (l:Zy) (pn pe pp:Zo) (n e q cn ce cp:Nat) :
  Ok w0 b T (Box2 b w.heap.size (w.heap.size+1) K l pn pe pp n e q cn ce cp) w c ((w.alloc (wBox b)).alloc (tBox K l pn pe pp n e q cn ce cp))/\Stays w0 b (Box2 b w.heap.size (w.heap.size+1) K l pn pe pp n e q cn ce cp):=by
 have M:=hw.lt;obtain⟨r,s⟩:=(Ok.of (I:=fun _=>True) hw h j trivial).box (.true _ _) #[.pointer (Zs b 0)] 131 (by decide);obtain⟨t,U⟩:=r.box s #[Zi K,.string l,.slice pn n cn,.slice pe e ce,.slice pp q cp] 31 (by decide);obtain⟨u,x,G,J,L,g⟩:=t;exact⟨⟨u,x,G,J,L,g.1.2,by simpa using g.2⟩,Box2.stays (by omega) (by omega) K l pn pe pp n e q cn ce cp⟩
theorem zm1 (w0:Zw) (b:Nat) (T:TypeId) (K:Int) (s l:Bs) (pn pe pp:Zo) (n e q cn ce cp:Nat) (t:(K=1/\s=[105,110,116])∨(K=2/\s=[98,111,111,108])∨(K=3/\s=[116,101,120,116])) :
  Puts w0 b T (fun _=>True) 50 #[.pointer (Zs b 0),.agg #[Zi K,.string ⟨l.toArray⟩,.slice pn n cn,.slice pe e ce,.slice pp q cp]] [tW s]:=by
 intro u w hw c g _;obtain⟨h,j⟩:=boxes2 hw c g K ⟨l.toArray⟩ pn pe pp n e q cn ce cp;have r:=J3 ((JH w0 b T s).ok (fun _ _=>trivial) j h);clear h j hw g c;rcases t with⟨rfl,rfl⟩|⟨rfl,rfl⟩|⟨rfl,rfl⟩
 all_goals
  go_enter Tryz.func50,Tryz.ntmps50;go_wp2_with (go_at_call 65;refine r.mono ?_;clear r;rintro x G ⟨rfl,ok⟩);exact Yd (v:=.tuple #[]) (by simp[results,Tryz.results50,go_sem]) rfl (ok.fin rfl)
theorem type_name (w0:Zw) (b:Nat) (T:TypeId) (l:Bs) (pn pe pp:Zo) (n e q cn ce cp:Nat) :
  Puts w0 b T (fun _=>True) 50 #[.pointer (Zs b 0),.agg #[Zi 4,.string ⟨l.toArray⟩,.slice pn n cn,.slice pe e ce,.slice pp q cp]] [tT l]:=by
 intro s w hw g h _;obtain⟨j,c⟩:=boxes2 hw g h 4 ⟨l.toArray⟩ pn pe pp n e q cn ce cp;have r:=J3 ((zdq w0 b T l).ok (fun _ _=>trivial) c (j.drew c));clear j c hw h g;go_enter Tryz.func50,Tryz.ntmps50;go_wp2
 go_region_with (go_at_call 66;refine r.mono ?_;clear r;rintro x t ⟨rfl,ok⟩)
 all_goals
  go_wp2;exact Yd (v:=.tuple #[]) (by simp[results,Tryz.results50,go_sem]) rfl (ok.fin rfl)
theorem type_ptr (w0:Zw) (b:Nat) (T:TypeId) (l:Bs) (pn pe pp:Zo) (n e cn ce cp:Nat) (tk:List Tok) (J:TyPart w0 b T 50 pp 0 tk) :
  Puts w0 b T (fun _=>True) 50 #[.pointer (Zs b 0),.agg #[Zi 5,.string ⟨l.toArray⟩,.slice pn n cn,.slice pe e ce,.slice pp 1 cp]] (tS [42]::tk):=by
 intro ts w hw r s _;obtain⟨g,o,L,M,U,Y,Z,n1,n2,n3,c1,c2,c3,rfl,a0,c,a2,a3,a4,wt⟩:=J;obtain⟨t,j⟩:=boxes2 hw r s 5 ⟨l.toArray⟩ pn pe (Zs g o) n e 1 cn ce cp;have u:=J3 ((JU w0 b T [42]).ok (fun _ _=>trivial) j t);have FF:ZH (∀V:Zw,ZB w0 V->ZK5 V g o (Zi L) (.string M) (.slice U n1 c1) (.slice Y n2 c2) (.slice Z n3 c3)):=fun V h=>
  ⟨by simpa using(h.cell (p:=⟨g,_,none⟩) (J2 a0)).trans a0,by simpa using(h.cell (p:=⟨g,_,none⟩) (J2 c)).trans c,by simpa using(h.cell (p:=⟨g,_,none⟩) (J2 a2)).trans a2,by simpa using(h.cell (p:=⟨g,_,none⟩) (J2 a3)).trans a3,by simpa using(h.cell (p:=⟨g,_,none⟩) (J2 a4)).trans a4⟩
 have G:=J3 wt;have I:=J3 j;clear t j hw s r a0 c a2 a3 a4 wt;go_enter Tryz.func50,Tryz.ntmps50;go_wp2_with (go_at_call 67;refine u.mono ?_;clear u;rintro x wa ⟨rfl,ok⟩;obtain⟨f0,f1,f2,f3,f4,f5⟩:=ok.2.2.2.2.2.cells;obtain⟨m0,m1,m2,m3,m4⟩:=FF wa ok.2.2.1;have OK:=J3 ok;clear ok)
 go_region_with (go_at_call 50;refine(G.ok (fun _ _=>trivial) I (OK.drew I)).mono ?_;clear G;rintro x wb ⟨rfl,aa⟩)
 all_goals
  go_wp2;exact Yd (v:=.tuple #[]) (by simp[results,Tryz.results50,go_sem]) rfl (aa.fin rfl)
theorem type_fn (w0:Zw) (b:Nat) (T:TypeId) (l:Bs) (pn pe pp:Zo) (n e q cn ce cp:Nat) (tk:List Tok) (g:Puts w0 b T (fun _=>True) 84 #[.pointer (Zs b 0),.agg #[Zi 7,.string ⟨l.toArray⟩,.slice pn n cn,.slice pe e ce,.slice pp q cp]] tk) :
  Puts w0 b T (fun _=>True) 50 #[.pointer (Zs b 0),.agg #[Zi 7,.string ⟨l.toArray⟩,.slice pn n cn,.slice pe e ce,.slice pp q cp]] (tW [102,110]::tk):=by
 intro J w hw h j _;obtain⟨r,c⟩:=boxes2 hw h j 7 ⟨l.toArray⟩ pn pe pp n e q cn ce cp;have s:=J3 ((JH w0 b T [102,110]).ok (fun _ _=>trivial) c r);have t:=J3 g;have u:=J3 c;clear r c hw j h g;go_enter Tryz.func50,Tryz.ntmps50;go_wp2_with (first
  | (go_at_call 65;refine s.mono ?_;clear s;rintro x L ⟨rfl,ok⟩;obtain⟨f0,f1,f2,f3,f4,f5⟩:=ok.2.2.2.2.2.cells;have G:=J3 ok;clear ok)
  | (go_at_call 84;refine(t.ok (fun _ _=>trivial) u G).mono ?_;clear t;rintro x M ⟨rfl,I⟩))
 exact Yd (v:=.tuple #[]) (by simp[results,Tryz.results50,go_sem]) rfl (I.fin rfl)
theorem type_rec (w0:Zw) (b:Nat) (T:TypeId) (l:Bs) (pn pe pp:Zo) (q cn ce cp:Nat) (tk:List Tok)
  (g:∀j r,Puts w0 b T (Box2 b j r 6 ⟨l.toArray⟩ pn pe pp q q q cn ce cp) 82 #[.pointer (Zs j 0),.pointer (Zs r 0)] tk) :
  Puts w0 b T (fun _=>True) 50 #[.pointer (Zs b 0),.agg #[Zi 6,.string ⟨l.toArray⟩,.slice pn q cn,.slice pe q ce,.slice pp q cp]] (tS [123]::(tk++[tS [125]])):=by
 intro I w hw s t _;obtain⟨u,c⟩:=boxes2 hw s t 6 ⟨l.toArray⟩ pn pe pp q q q cn ce cp;have G:=J3 ((zcc w0 b T _ c _ (fun _ _=>by kernel_rfl) _ _ [123] [125] tk (g w.heap.size (w.heap.size+1))).ok (fun _ h=>h) c u);clear u c hw t s g;go_enter Tryz.func50,Tryz.ntmps50;go_wp2_with (go_at_call 81;refine G.mono ?_;clear G;rintro x J ⟨rfl,ok⟩);exact Yd (v:=.tuple #[]) (by simp[results,Tryz.results50,go_sem]) rfl (ok.fin rfl)
theorem type_iface (w0:Zw) (b:Nat) (T:TypeId) (l:Bs) (pn pe pp:Zo) (q e cn ce cp:Nat) (tk:List Tok)
  (g:∀j r,Puts w0 b T (Box2 b j r 8 ⟨l.toArray⟩ pn pe pp q e q cn ce cp) 85 #[.pointer (Zs j 0),.pointer (Zs r 0)] tk) :
  Puts w0 b T (fun _=>True) 50 #[.pointer (Zs b 0),.agg #[Zi 8,.string ⟨l.toArray⟩,.slice pn q cn,.slice pe e ce,.slice pp q cp]] (tW [105,110,116,101,114,102,97,99,101]::tS [123]::(tk++[tS [125]])):=by
 intro U w hw s t _;obtain⟨u,c⟩:=boxes2 hw s t 8 ⟨l.toArray⟩ pn pe pp q e q cn ce cp;have G:=J3 ((JH w0 b T [105,110,116,101,114,102,97,99,101]).ok (fun _ _=>trivial) c u);have I:=J3 (zcc w0 b T _ c _ (fun _ _=>by kernel_rfl) _ _ [123] [125] tk (g w.heap.size (w.heap.size+1)));have J:=J3 c;clear u c hw t s g;go_enter Tryz.func50,Tryz.ntmps50;go_wp2_with (first
  | (go_at_call 65;refine G.mono ?_;clear G;rintro x V ⟨rfl,ok⟩;obtain⟨f0,f1,f2,f3,f4,f5⟩:=ok.2.2.2.2.2.cells;have L:=J3 ok;clear ok)
  | (go_at_call 81;refine(I.ok (fun _ h=>h) J L).mono ?_;clear I;rintro x Y ⟨rfl,M⟩))
 exact Yd (v:=.tuple #[]) (by simp[results,Tryz.results50,go_sem]) rfl (M.fin rfl)
def TyPuts (w0:Zw) (d:Nat):Prop:=∀(b:Nat) (T:TypeId) (v:Value) (t:Ty (d+1)),TyVal w0 d v t->zht d t->za5 d t.2.2.2.2->(∃room,ze8 d room t=true) ->
 Puts w0 b T (fun _=>True) 50 #[.pointer (Zs b 0),v] (Jf (d+1) false t)
def SigPuts (w0:Zw) (d:Nat):Prop:=∀(b:Nat) (T:TypeId) (v:Value) (t:Ty (d+1)),TyVal w0 d v t->zht d t->za5 d t.2.2.2.2->(∃room,ze8 d room t=true)->t.1=7 ->
 Puts w0 b T (fun _=>True) 84 #[.pointer (Zs b 0),v] (Jf (d+1) true t)
def zf8 (w0:Zw) (F:FuncId) (g:Bool) (d:Nat):Prop:=∀(b:Nat) (T:TypeId) (pp:Zo) (cp:Nat) (c:List (Ty d)),TyRow w0 d (.slice pp c.length cp) c->za5 d c->(∃room,Ju d room c=true)->(g=true->fnsB d c=true) ->
 ∀(k:Nat) (t:Ty d),c[k]?=some t->TyPart w0 b T F pp k (Jf d g t)
theorem zli {d:Nat} {t:Ty (d+1)} (h:∃room,ze8 d room t=true):zb6 d t=true/\∃room,Ju d room t.2.2.2.2=true:=by
 obtain⟨room,h⟩:=h;simp only[ze8,Yc]at h;exact⟨h.1.2,_,h.2⟩
theorem parts_put_ty (w0:Zw):(d:Nat)->TyPuts w0 d->zf8 w0 50 false (d+1):=fun d H b T pp cp Z s u h _ k t j=>by
 obtain⟨p,c,e,hp⟩:=s;injection e with x e2 e3
 subst x;obtain⟨g,o,vn,ve,vp,rfl,a0,G,a2,a3,a4,I,J,r⟩:=hp k t j;obtain⟨L,M⟩:=u.2 t (YK j);obtain⟨pn,cn,rfl,U⟩:=I;obtain⟨pe,ce,rfl,V⟩:=J;obtain⟨Y,c3,rfl⟩:=r.slice;refine⟨g,o,_,_,_,_,_,_,_,_,_,_,_,rfl,a0,G,a2,a3,a4,H b T _ t ⟨pn,pe,Y,cn,ce,c3,rfl,⟨pn,cn,rfl,U⟩,⟨pe,ce,rfl,V⟩,r⟩ L M ?_⟩;obtain⟨room,h⟩:=h;exact⟨room,Yn.1 h t (YK j)⟩
theorem parts_put_sig (w0:Zw):(d:Nat)->SigPuts w0 d->zf8 w0 84 true (d+1):=fun d H b T pp cp ts s u j x k t h=>by
 obtain⟨p,c,e,hp⟩:=s;injection e with G e2 e3
 subst G;obtain⟨g,o,vn,ve,vp,rfl,a0,I,a2,a3,a4,J,L,r⟩:=hp k t h;obtain⟨M,U⟩:=u.2 t (YK h);obtain⟨pn,cn,rfl,V⟩:=J;obtain⟨pe,ce,rfl,Y⟩:=L;obtain⟨Z,c3,rfl⟩:=r.slice;refine⟨g,o,_,_,_,_,_,_,_,_,_,_,_,rfl,a0,I,a2,a3,a4,H b T _ t ⟨pn,pe,Z,cn,ce,c3,rfl,⟨pn,cn,rfl,V⟩,⟨pe,ce,rfl,Y⟩,r⟩ M U ?_ ?_⟩
 ·obtain⟨room,j⟩:=j;exact⟨room,Yn.1 j t (YK h)⟩
 ·have:=Yn.1 (x rfl) t (YK h);simpa using this
theorem getD_at {l:List Bs} {k:Nat} {s:Bs} (h:l[k]?=some s):l.getD k []=s:=by rw[Yo,h];rfl
theorem getDb_at {l:List Bool} {k:Nat} {s:Bool} (h:l[k]?=some s):l.getD k false=s:=by rw[Yo,h];rfl
theorem sig_of (w0:Zw) (d:Nat) (H:zf8 w0 50 false d):SigPuts w0 d:=fun b T v t j r s u x=>by
 obtain⟨pn,pe,pp,cn,ce,cp,rfl,L,M,G⟩:=j;obtain⟨I,J⟩:=zli u;obtain⟨K,l,ns,es,c⟩:=t;dsimp only at *;subst x;have g:1<=c.length:=by
  simp[zb6,JF]at I;omega
 obtain⟨q,g⟩:∃q,c.length=q+1:=⟨c.length-1,by omega⟩
 have:=sig_any w0 b T 7 ⟨l.toArray⟩ pn pe pp ns.length es.length q c.length cn ce cp g r.2.2.2.2 (fun k=>(c[k]?.map (Jf d false)).getD []) (fun k U=>by
  have h:c[k]?=some c[k]:=by simp
  have:=H b T pp cp c G s J (by simp) k _ h;simp only[h];exact this)
 simp only[Jf,if_true,g,Nat.add_sub_cancel];rw[g]at this;simp at this ⊢;exact this
theorem type_of (w0:Zw) (d:Nat) (H:zf8 w0 50 false d) (HS:zf8 w0 84 true d):TyPuts w0 d:=fun b T v t M U G V=>by
 have aa:=sig_of w0 d H b T v t M U G V;obtain⟨pn,pe,pp,cn,ce,cp,rfl,r1,r2,Y⟩:=M;obtain⟨j,Z⟩:=zli V;obtain⟨K,l,ns,es,h⟩:=t;obtain⟨f1,f2,f3,f4,f5⟩:=U;dsimp only at *;have PT:∀k,k<h.length->TyPart w0 b T 50 pp k ((h[k]?.map (Jf d false)).getD []):=fun k u=>by
  have x:h[k]?=some h[k]:=by simp
  have:=H b T pp cp h Y G Z (by simp) k _ x;simp only[x];exact this
 have hN:∀k,k<ns.length->∃g o,pn=some ⟨g,o,none⟩/\w0.cell? ⟨g,o+k,none⟩=some (.string ⟨(ns.getD k []).toArray⟩):=fun k u=>by
  obtain⟨p,c,e,hp⟩:=r1;injection e with I e2 e3
  subst I;obtain⟨g,o,e,a⟩:=hp k ns[k] (by simp);exact⟨g,o,e,by rw[a,getD_at (s:=ns[k]) (by simp)]⟩
 have hE:∀k,k<es.length->∃g o,pe=some ⟨g,o,none⟩/\w0.cell? ⟨g,o+k,none⟩=some (.bool (es.getD k false)):=fun k u=>by
  obtain⟨p,c,e,hp⟩:=r2;injection e with I e2 e3
  subst I;obtain⟨g,o,e,a⟩:=hp k es[k] (by simp);exact⟨g,o,e,by rw[a,getDb_at (s:=es[k]) (by simp)]⟩
 have u:K=1∨K=2∨K=3∨K=4∨K=5∨K=6∨K=7∨K=8:=by
  simp only[zb6,JF]at j
  split at j
  ·simp at j
  ·repeat' split at j
   all_goals first|omega|(simp at j;done)
 rcases u with rfl|rfl|rfl|rfl|rfl|rfl|rfl|rfl
 ·exact zm1 w0 b T 1 _ l pn pe pp _ _ _ cn ce cp (.inl ⟨rfl,rfl⟩)
 ·exact zm1 w0 b T 2 _ l pn pe pp _ _ _ cn ce cp (.inr (.inl ⟨rfl,rfl⟩))
 ·exact zm1 w0 b T 3 _ l pn pe pp _ _ _ cn ce cp (.inr (.inr ⟨rfl,rfl⟩))
 ·exact type_name w0 b T l pn pe pp _ _ _ cn ce cp
 ·have r:h.length=1:=by simp[zb6,JF]at j;exact j.2.2
  have:=type_ptr w0 b T l pn pe pp ns.length es.length cn ce cp _ (PT 0 (by omega));rw[r];simpa[Jf]using this
 ·have r:ns.length=h.length/\es.length=h.length:=by simp[zb6,JF]at j;exact⟨j.2.1.1,j.2.1.2⟩
  have:=type_rec w0 b T l pn pe pp h.length cn ce cp _ (fun J L=>type1_any w0 b T J L 6 ⟨l.toArray⟩ pn pe pp h.length cn ce cp f5 (fun k=>ns.getD k []) (fun k=>es.getD k false) (fun k=>(h[k]?.map (Jf d false)).getD []) (r.1 ▸ hN) (r.2 ▸ hE) PT);rw[r.1,r.2];simp[Jf,r.1]at this ⊢;exact this
 ·have:=type_fn w0 b T l pn pe pp ns.length es.length h.length cn ce cp _ (aa rfl);simpa[Jf]using this
 ·have r:ns.length=h.length/\fnsB d h=true:=by simp[zb6,JF]at j;exact⟨j.2.1.1.1,j.2.2⟩
  have PS:∀k,k<h.length->TyPart w0 b T 84 pp k ((h[k]?.map (Jf d true)).getD []):=fun k u=>by
   have x:h[k]?=some h[k]:=by simp
   have:=HS b T pp cp h Y G Z (fun _=>r.2) k _ x;simp only[x];exact this
  have:=type_iface w0 b T l pn pe pp h.length es.length cn ce cp _ (fun J L=>type2_any w0 b T J L 8 ⟨l.toArray⟩ pn pe pp h.length es.length cn ce cp f5 (fun k=>ns.getD k []) (fun k=>(h[k]?.map (Jf d true)).getD []) (r.1 ▸ hN) PS);rw[r.1];simp[Jf,r.1]at this ⊢;exact this
theorem zb3 (w0:Zw):∀d,zf8 w0 50 false d/\zf8 w0 84 true d
 | 0=>⟨fun _ _ _ _ _ _ _ _ _ _ t _=>(nomatch t),fun _ _ _ _ _ _ _ _ _ _ t _=>(nomatch t)⟩
 | d+1=>⟨parts_put_ty w0 d (type_of w0 d (zb3 w0 d).1 (zb3 w0 d).2),parts_put_sig w0 d (sig_of w0 d (zb3 w0 d).1)⟩
theorem zit (w0:Zw) (d:Nat):TyPuts w0 d:=type_of w0 d (zb3 w0 d).1 (zb3 w0 d).2
theorem zcl (x:Sum Nat Bs):∃(s:Zy) (y:Int),JI x=.tuple #[.string s,Zi y]:=by
 rcases x with y|l
 ·exact⟨_,_,rfl⟩
 ·exact⟨_,_,rfl⟩
theorem zih (base b:Nat) (T:TypeId) (h:List Tok) (w:Zw) (hw:WrAt base b T h w) (M:h.length<=32769) (t:Fits h) (u:Tab w) (J:4<=w.heap.size) :
  ZC 37 #[.pointer (Zs b 0)] w (JI (join h)):=by
 obtain⟨_,_,v,G,j⟩:=hw;have U:=G.cell;have r:=J3 (Join_any v h w (TokRow.of_owns j) (by omega) t u J);obtain⟨s,y,I⟩:=zcl (join h);rw[I]at r ⊢;obtain⟨p,c,rfl⟩:∃p c,v=.slice p h.length c:=by
  rcases j.2 with⟨rfl,e⟩|⟨g,cap,cur,rfl,_⟩
  ·exact⟨none,0,by rw[e]⟩
  ·exact⟨_,_,rfl⟩
 clear G j t u I;go_enter Tryz.func37,Tryz.ntmps37;go_wp2_with (go_at_call 68;refine r.mono ?_;clear r;rintro x w1 ⟨rfl,L⟩);go_ret2;exact⟨rfl,L⟩
def zjs (d:Nat) (t:Ty (d+1)):Sum Nat Bs:=if ze8 d 64 t=true then join (Jc [] (Jf (d+1) false t))else .inl 1
theorem WrAt.new (w:Zw) (T:TypeId) (c:T≠112):WrAt w.heap.size w.heap.size T [] (w.alloc (.cells #[Zz] T)):=
 ⟨Y5 _,c,_,Jm _ _,YU _ _ _ _⟩
theorem zk9 (d:Nat) (v:Value) (t:Ty (d+1)) (w:Zw) (hv:TyVal w d v t) (G:zht d t) (I:za5 d t.2.2.2.2) (M:Tab w) (h5:4<=w.heap.size) :
  ZC 19 #[v] w (JI (zjs d t)):=by
 have U:=hv;obtain⟨pn,pe,pp,cn,ce,cp,rfl,_,_,_⟩:=hv;obtain⟨O,J⟩:=Ze (tBox t.1 ⟨t.2.1.toArray⟩ pn pe pp t.2.2.1.length t.2.2.2.1.length t.2.2.2.2.length cn ce cp:Obj)
 have j:ZB w (w.alloc O):=(Yu _ _).alloc (Y5 _) O;have g:=J3 (zg0 d (zbo d) _ t 64 (w.alloc O) (U.below j) G I (by omega) (by omega) (M.below j h5) (by simp;omega));have V:ZH (zjs d t=if ze8 d 64 t=true then join (Jc [] (Jf (d+1) false t))else .inl 1):=rfl;by_cases h:ze8 d 64 t=true
 ·rw[Ye h]at V;rw[h]at g;obtain⟨s,y,Y⟩:=zcl (join (Jc [] (Jf (d+1) false t)));have Z:ZH (∀w1:Zw,Below (w.alloc O).heap.size (w.alloc O) w1->((w1.alloc (.cells #[Zz] 78)).cell? ⟨w.heap.size,0,none⟩=some (Zi t.1)/\(w1.alloc (.cells #[Zz] 78)).cell? ⟨w.heap.size,1,none⟩=some (.string ⟨t.2.1.toArray⟩)/\(w1.alloc (.cells #[Zz] 78)).cell? ⟨w.heap.size,2,none⟩=some (.slice pn t.2.2.1.length cn)/\(w1.alloc (.cells #[Zz] 78)).cell? ⟨w.heap.size,3,none⟩=some (.slice pe t.2.2.2.1.length ce)/\(w1.alloc (.cells #[Zz] 78)).cell? ⟨w.heap.size,4,none⟩=some (.slice pp t.2.2.2.2.length cp)) /\
    Zg 50 #[.pointer (Zs w1.heap.size 0),.agg #[Zi t.1,.string ⟨t.2.1.toArray⟩,.slice pn t.2.2.1.length cn,.slice pe t.2.2.2.1.length ce,.slice pp t.2.2.2.2.length cp]] (w1.alloc (.cells #[Zz] 78)) fun e w'=>e=.returned (.tuple #[])/\ZB w w' /\
     Zg 37 #[.pointer (Zs w1.heap.size 0)] w' fun e ac=>e=.returned (.tuple #[.string s,Zi y])/\ZB w ac):=fun w1 r=>by
   have aa:ZB w w1:=j.trans (r.mono (by simp));have ad:=aa.size;have c:w1.heap[w.heap.size]?=some O:=(r.block _ (by simp)).trans (Jm _ _);rw[J]at c;replace c:=(((Yu w1.heap.size w1).alloc (Y5 _) (.cells #[Zz] 78)).block _ (Y8.1 c).1).trans c;refine⟨⟨by rw[Y0 c];rfl,by rw[Y0 c];rfl,by rw[Y0 c];rfl,by rw[Y0 c];rfl,by rw[Y0 c];rfl⟩,?_⟩;have ha:ZB w1 (w1.alloc (.cells #[Zz] 78)):=Za _ _;refine(zit w1 d w1.heap.size 78 _ t (U.below aa) G I ⟨64,h⟩ [] _ (WrAt.new w1 _ (by decide)) (by simp) ha trivial).mono ?_;rintro x w2 ⟨rfl,ae,af,_⟩;have L:ZB w w2:=aa.trans ((ha.trans af).mono ad);refine⟨rfl,L,?_⟩;rw[<-Y];refine(zih _ _ _ _ w2 ae (zah _ _ (by simp)) (zi4 _ _ Ji (zcd (d+1) false [t] ⟨by simp,fun u hu=>by rw[Xg]at hu;subst hu;exact⟨G,I⟩⟩ t (by simp))) (M.below L h5) (by have:=L.size;omega)).mono ?_;rintro x w3 ⟨rfl,ab⟩;exact⟨rfl,Zn L ab⟩
  have HJ:=J3 Y;clear Y U G I M j;rw[J]at Z g;clear J;go_enter Tryz.func19,Tryz.ntmps19;go_wp2_with (first
   | (go_at_call 49;refine g.mono ?_;clear g;rintro x w1 ⟨rfl,r⟩;obtain⟨⟨f0,f1,f2,f3,f4⟩,wt⟩:=Z w1 r;have WT:=J3 wt;clear wt Z)
   | (go_at_call 50;refine WT.mono ?_;clear WT;rintro x w2 ⟨rfl,L,tx⟩;have TX:=J3 tx;clear tx)
   | (go_at_call 37;refine TX.mono ?_;clear TX;rintro x w3 ⟨rfl,ab⟩))
  go_ret2;exact⟨by rw[J0 V,J0 HJ];rfl,ab⟩
 ·have h:=(Yb _).mp h;rw[Y7 (by rw[h];simp)]at V;rw[h]at g;have HB:=J3 j;clear U G I M j;rw[J]at g HB;clear J;go_enter Tryz.func19,Tryz.ntmps19;go_wp2_with (go_at_call 49;refine g.mono ?_;clear g;rintro x w1 ⟨rfl,r⟩);go_ret2;exact⟨by rw[J0 V];rfl,HB.trans (r.mono (by simp))⟩
end Go.Proofs.YtdcbglnhhbmpgaaGreatDoor
