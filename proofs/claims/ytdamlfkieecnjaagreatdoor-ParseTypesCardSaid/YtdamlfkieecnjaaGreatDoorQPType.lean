import Derived.Test.YtdamlfkieecnjaaGreatDoorQPTyC
import Derived.Test.YtdamlfkieecnjaaGreatDoorQPRegion
set_option maxHeartbeats 8000000
set_option maxRecDepth 100000
namespace Go.Proofs.YtdamlfkieecnjaaGreatDoor
open Go Go.RowKit Lx
def SgAt (b d bx b1 b2:Nat) (depth:Int) (ps:List (Ty (d+1))) (W:World):Prop:=
 (∃vN vE vP,TbAt 7 d bx W [] [] ps vN vE vP)/\W.heap[b1]?=some (.cells #[rp b] 170)/\W.heap[b2]?=some (.cells #[.int .i64 depth] 3)
theorem SgAt.still {b d bx b1 b2:Nat} {depth:Int} {ps:List (Ty (d+1))} {W W':World} (h:SgAt b d bx b1 b2 depth ps W) (hx:Kx b W W') (hb:b<bx) (h1:b≠b1) (h2:b≠b2):SgAt b d bx b1 b2 depth ps W':=by
 obtain⟨⟨vN,vE,vP,k⟩,k1,k2⟩:=h;exact⟨⟨vN,vE,vP,k.still hx hb⟩,(hx.2 _ (Array.getElem?_eq_some_iff.1 k1).1 h1.symm).trans k1,(hx.2 _ (Array.getElem?_eq_some_iff.1 k2).1 h2.symm).trans k2⟩
theorem box1 {W:World} {k:Nat} {T:TypeId} {v:Value} (h:W.heap[k]?=some (.cells #[v] T)):W.cell? ⟨k,0,none⟩=some v:=(Lib.cell_of_heap h 0).trans rfl
def SigA1 (b:Nat) (T:TypeId) (en:Int) (d:Nat) (x:Ty (d+1)×RS) (s:RS) (wr:World) (c z:Bool) (t8 t10:Value) (u:World):Prop:=
 Kx b wr u/\(c=false->RdAt b T en s u)/\(c=true->RdAt b T en x.2 u/\∃(K:Int) (S:ByteArray) (pn pe pp:Option Addr) (nn cn ne ce np cp hi:Nat),t8=Jc K S pn pe pp nn cn ne ce np cp/\hi<=u.heap.size/\∀V:World,(∀j,wr.heap.size<=j->j<hi->V.heap[j]?=u.heap[j]?)->TyV V d (Jc K S pn pe pp nn cn ne ce np cp) x.1) /\
  (z=true->∃B,t10=.slice (some ⟨B,0,none⟩) 1 1/\wr.heap.size<=B/\u.heap[B]?=some tyO)
theorem SigA1.alloc {b:Nat} {T:TypeId} {en:Int} {d:Nat} {x:Ty (d+1)×RS} {s:RS} {wr:World} {c:Bool} {t8 t10:Value} {u:World} (h:SigA1 b T en d x s wr c false t8 t10 u) (hb:b<wr.heap.size):SigA1 b T en d x s wr c true t8 (.slice (some ⟨u.heap.size,0,none⟩) 1 1) (u.alloc tyO):=by
 obtain⟨h1,h2,h3,_⟩:=h;refine⟨h1.alloc (Nat.le_of_lt hb) h1.size _,fun hc=>(h2 hc).alloc _,fun hc=>?_,fun _=>⟨_,rfl,h1.size,J6 _ _⟩⟩;obtain⟨r,K,S,pn,pe,pp,nn,cn,ne,ce,np,cp,hi,e,hh,hv⟩:=h3 hc;exact⟨r.alloc _,K,S,pn,pe,pp,nn,cn,ne,ce,np,cp,hi,e,by simp;omega,fun V hV=>hv V fun j j1 j2=>(hV j j1 j2).trans (J9 _ _ (by omega))⟩
theorem SigA1.call {b:Nat} {T:TypeId} {en:Int} {d:Nat} {x:Ty (d+1)×RS} {s:RS} {wr:World} {z:Bool} {t8 t10:Value} {u w1:World} {K:Int} {S:ByteArray} {pn pe pp:Option Addr} {nn cn ne ce np cp:Nat} (h:SigA1 b T en d x s wr false z t8 t10 u) (hb:b<wr.heap.size) (r1:RdAt b T en x.2 w1) (r2:Kx b u w1) (r3:∀V:World,(∀j,u.heap.size<=j->j<w1.heap.size->V.heap[j]?=w1.heap[j]?)->TyV V d (Jc K S pn pe pp nn cn ne ce np cp) x.1):SigA1 b T en d x s wr true z (Jc K S pn pe pp nn cn ne ce np cp) t10 w1:=by
 obtain⟨h1,_,_,h4⟩:=h;have hs:=h1.size;refine⟨Kl.on h1 r2,(fun e=>nomatch e),fun _=>⟨r1,K,S,pn,pe,pp,nn,cn,ne,ce,np,cp,w1.heap.size,rfl,Nat.le_refl _,fun V hV=>r3 V fun j j1 j2=>hV j (by omega) j2⟩,fun hz=>?_⟩;obtain⟨B,e,h5,h6⟩:=h4 hz;exact⟨B,e,h5,(r2.2 _ (Array.getElem?_eq_some_iff.1 h6).1 (by omega)).trans h6⟩
def SigA2 (b bx m:Nat) (pn pe:Option Addr) (cn ce:Nat) (vP:Value) (P:Value->World->Prop) (e f:Bool) (t8 t11:Value) (u:World):Prop:=
 ∃(K:Int) (S:ByteArray) (qn qe qp:Option Addr) (nn m1 ne m2 np m3 g cap:Nat) (W4:World),t8=Jc K S qn qe qp nn m1 ne m2 np m3/\t11=.slice (some ⟨g,0,none⟩) (m+1) cap/\Ends 27 bx g m b cap [.int .i64 K,.string S,.slice qn nn m1,.slice qe ne m2,.slice qp np m3] #[.int .i64 7,.string ⟨#[]⟩,.slice pn 0 cn,.slice pe 0 ce,vP] 27 W4 P/\g<W4.heap.size /\
  (∀k,k<5->∃c,W4.cell? ⟨g,m*5+k,none⟩=some c)/\(∀k,W4.frozen? ⟨g,k,none⟩=false)/\W4.cell? ⟨bx,4,none⟩=some vP/\W4.frozen? ⟨bx,4,none⟩=false /\
  (e=false->f=false->u=W4)/\(e=false->f=true->u=W4.setCell ⟨bx,4,none⟩ (.slice (some ⟨g,0,none⟩) (m+1) cap)) /\
  (e=true->f=false->u=((((W4.setCell ⟨g,m*5,none⟩ (.int .i64 K)).setCell ⟨g,m*5+1,none⟩ (.string S)).setCell ⟨g,m*5+2,none⟩ (.slice qn nn m1)).setCell ⟨g,m*5+3,none⟩ (.slice qe ne m2)).setCell ⟨g,m*5+4,none⟩ (.slice qp np m3)) /\
  (e=true->f=true->P (.slice (some ⟨g,0,none⟩) (m+1) cap) u)
def SigInv (b:Nat) (T:TypeId) (en:Int) (d:Nat) (x:Ty (d+1)×RS) (s:RS) (wr:World) (bx b1 b2 m:Nat) (depth:Int) (pn pe:Option Addr) (cn ce:Nat) (vP:Value) (P:Value->World->Prop) (S:Nat->Bool) (a:Act) (u:World):Prop:=
 ∃t3 t4 t5 t6 t7 t8 t9 t10 t11 t12 t13:Value,a={ tmps:=#[.pointer (some ⟨bx,0,none⟩),.pointer (some ⟨b1,0,none⟩),.pointer (some ⟨b2,0,none⟩),t3,t4,t5,t6,t7,t8,t9,t10,t11,t12,t13],defers:=[] } /\
  (S 0=true->t3=.pointer (some ⟨bx,4,none⟩))/\(S 1=true->t4=vP)/\(S 2=true->t5=rp b)/\(S 3=true->t6=.int .i64 depth)/\(S 4=true->t7=.int .i64 (depth+1))/\(S 6=true->t9=.int .i64 (m:Int)) /\
  (S 9=true->∃g cap,t11=.slice (some ⟨g,0,none⟩) (m+1) cap/\t12=.pointer (some ⟨g,m*5,none⟩))/\(S 11=true->t13=.pointer (some ⟨bx,4,none⟩))/\(S 8=true->∀i,i<8->S i=true)/\(S 8=false->S 10=false/\S 9=false/\S 12=false) /\
  (S 8=false->SigA1 b T en d x s wr (S 5) (S 7) t8 t10 u)/\(S 8=true->SigA2 b bx m pn pe cn ce vP P (S 10) (S 12) t8 t11 u)
end Go.Proofs.YtdamlfkieecnjaaGreatDoor
namespace Go.Proofs.YtdamlfkieecnjaaGreatDoor
open Go Go.RowKit Lx
section
variable {o:Oper} {a:Act} {w:World} {K:Act->World->Prop} {Q:Exit->Act->World->Prop}
theorem po_field4 {x:Operand} {b:Nat} (ho:o.op=.fieldAddr 27 x 4) (hx:a.eval x=.pointer (some ⟨b,0,none⟩)) (h:K (a.put o.dst (.pointer (some ⟨b,4,none⟩))) w):o.wp Tryz.prog a w K Q:=by
 unfold Oper.wp;simp only[execOp,ho,hx];go_simp;exact h
theorem po_loadTs {x:Operand} {b i:Nat} {p:Option Addr} {n c:Nat} (ho:o.op=.load 25 x) (hx:a.eval x=.pointer (some ⟨b,i,none⟩)) (h0:w.cell? ⟨b,i,none⟩=some (.slice p n c)) (h:K (a.put o.dst (.slice p n c)) w):o.wp Tryz.prog a w K Q:=by
 unfold Oper.wp;simp only[execOp,ho,hx];go_simp;exact h
theorem po_loadR {x:Operand} {b i r:Nat} (ho:o.op=.load 170 x) (hx:a.eval x=.pointer (some ⟨b,i,none⟩)) (h0:w.cell? ⟨b,i,none⟩=some (rp r)) (h:K (a.put o.dst (rp r)) w):o.wp Tryz.prog a w K Q:=by
 unfold Oper.wp;simp only[execOp,ho,hx];go_simp;exact h
theorem po_loadI {x:Operand} {b i:Nat} {n:Int} (ho:o.op=.load 3 x) (hx:a.eval x=.pointer (some ⟨b,i,none⟩)) (h0:w.cell? ⟨b,i,none⟩=some (.int .i64 n)) (h:K (a.put o.dst (.int .i64 n)) w):o.wp Tryz.prog a w K Q:=by
 unfold Oper.wp;simp only[execOp,ho,hx];go_simp;exact h
theorem po_add1 {x y:Operand} {n:Int} (h0:0<=n) (h1:n<=100) (ho:o.op=.binOp .add 3 x y 3) (hx:a.eval x=.int .i64 n) (hy:a.eval y=.int .i64 1) (h:K (a.put o.dst (.int .i64 (n+1))) w):o.wp Tryz.prog a w K Q:=by
 have e:=wrap_small h0 h1;unfold Oper.wp;simp only[execOp,ho,hx,hy];go_simp;exact h
theorem po_len {x:Operand} {p:Option Addr} {n c:Nat} {t:TypeId} (ht:Tryz.prog.underlying t=some (.slice 27)) (ho:o.op=.call { callee:=.builtin .len,args:=#[x],argTypes:=#[t] }) (hx:a.eval x=.slice p n c) (h:K (a.put o.dst (.int .i64 (n:Int))) w):o.wp Tryz.prog a w K Q:=by
 unfold Oper.wp;simp[execOp,ho,resolve,invoke,builtin,hx];go_simp;exact h
theorem po_lay {x:Operand} {c0 c1 c2 c3 c4:Value} (ho:o.op=.buildSlice 25 1 #[(0,x)]) (hx:a.eval x=.agg #[c0,c1,c2,c3,c4]) (h:K (a.put o.dst (.slice (some ⟨w.heap.size,0,none⟩) 1 1)) (w.alloc (.cells #[c0,c1,c2,c3,c4] 27))):o.wp Tryz.prog a w K Q:=by
 unfold Oper.wp;simp only[execOp,ho,List.map_toArray,List.map_cons,List.map_nil,hx];go_simp;exact h
theorem po_append {s x:Operand} {t:TypeId} {v u v':Value} {w':World} (ho:o.op=.call { callee:=.builtin .append,args:=#[s,x],argTypes:=#[t,t] }) (hs:a.eval s=v) (hx:a.eval x=u) (hr:(Builtin.append_ #[t,t] o.type #[v,u]).run Tryz.prog w=.ok v' w') (h:K (a.put o.dst v') w'):o.wp Tryz.prog a w K Q:=by
 unfold Oper.wp;simp[execOp,ho,resolve,invoke,builtin,hs,hx,hr,Result.andThen];exact h
theorem po_index {x y:Operand} {g:Nat} {n c k:Nat} (ho:o.op=.indexAddr 25 x y) (hx:a.eval x=.slice (some ⟨g,0,none⟩) n c) (hy:a.eval y=.int .i64 (k:Int)) (hk:(k:Int)<(n:Int)) (h:K (a.put o.dst (.pointer (some ⟨g,k*5,none⟩))) w):o.wp Tryz.prog a w K Q:=by
 unfold Oper.wp;simp only[execOp,ho,hx,hy];go_simp;exact h
theorem po_storeTs {x y:Operand} {b i:Nat} {v0:Value} {p:Option Addr} {n c:Nat} (ho:o.op=.store 25 x y) (hd:o.dst=none) (hx:a.eval x=.pointer (some ⟨b,i,none⟩)) (hy:a.eval y=.slice p n c) (h0:w.cell? ⟨b,i,none⟩=some v0) (h1:w.frozen? ⟨b,i,none⟩=false) (h:K a (w.setCell ⟨b,i,none⟩ (.slice p n c))):o.wp Tryz.prog a w K Q:=by
 unfold Oper.wp;simp only[execOp,ho,hx,hy];go_simp;exact h
theorem po_storeTy {x y:Operand} {b i:Nat} {z0 z1 z2 z3 z4:Value} {k:Int} {S:ByteArray} {pn pe pp:Option Addr} {nn cn ne ce np cp:Nat} (ho:o.op=.store 27 x y) (hd:o.dst=none) (hx:a.eval x=.pointer (some ⟨b,i,none⟩)) (hy:a.eval y=Jc k S pn pe pp nn cn ne ce np cp) (h0:w.cell? ⟨b,i,none⟩=some z0) (h1:w.cell? ⟨b,i+1,none⟩=some z1) (h2:w.cell? ⟨b,i+2,none⟩=some z2) (h3:w.cell? ⟨b,i+3,none⟩=some z3) (h4:w.cell? ⟨b,i+4,none⟩=some z4) (hf:∀j,w.frozen? ⟨b,j,none⟩=false)
  (h:K a (((((w.setCell ⟨b,i,none⟩ (.int .i64 k)).setCell ⟨b,i+1,none⟩ (.string S)).setCell ⟨b,i+2,none⟩ (.slice pn nn cn)).setCell ⟨b,i+3,none⟩ (.slice pe ne ce)).setCell ⟨b,i+4,none⟩ (.slice pp np cp))):o.wp Tryz.prog a w K Q:=by
 unfold Oper.wp;simp only[execOp,ho,hx,hy];go_simp;exact h
theorem po_call {f:FuncId} {xs:Array Operand} {ts:Array TypeId} {us:Array Value} (ho:o.op=.call { callee:=.value (.func f),args:=xs,argTypes:=ts }) (hx:xs.map a.eval=us) (hF:∀args w,Sem.run Tryz.prog (callFunc f args) w=.ok (.enter f args) w) (h:Calls Tryz.prog f us w fun e w'=>∃v,e=.returned v/\K (a.put o.dst v) w'):o.wp Tryz.prog a w K Q:=by
 unfold Oper.wp;have he:a.eval (.func f)=.func (.func f) #[] #[]:=rfl;simp[execOp,ho,resolve,invoke,hx,he,Deferred.ofValue,hF];refine h.mono ?_;rintro e w' ⟨v,rfl,hk⟩;exact hk
end
end Go.Proofs.YtdamlfkieecnjaaGreatDoor
namespace Go.Proofs.YtdamlfkieecnjaaGreatDoor
open Go Go.RowKit Lx
theorem not8 {S:Nat->Bool} {i:Nat} (h:S 8=true->∀i,i<8->S i=true) (hi:i<8) (hS:S i=false):S 8≠true:=fun e=>by
 have:=h e i hi;rw[hS]at this
 cases this
theorem sigThing (b:Nat) (T:TypeId) (en:Int) (d:Nat) (p:RS->Ty (d+1)×RS) (depth:Int) (h0:0<=depth) (h1:depth<=100) (hP:za1 b T en 43 #[rp b,.int .i64 (depth+1)] d p) (bx b1 b2:Nat) (hb1:b<b1) (hb2:b1<b2) (hb3:b2<bx) :
  Thing b bx T en (SgAt b d bx b1 b2 depth) List.length 155 #[.pointer (some ⟨bx,0,none⟩),.pointer (some ⟨b1,0,none⟩),.pointer (some ⟨b2,0,none⟩)] (zad p):=fun ps s wr hR hI hlo hlen=>by
 obtain⟨⟨vN,vE,vP,hT⟩,k1,k2⟩:=hI;obtain⟨pn,cn,pe,ce,pp,cp,rfl,rfl,rfl⟩:=hT.slices;have hbx:bx<wr.heap.size:=(Array.getElem?_eq_some_iff.1 hT.1).1;have hbw:b<wr.heap.size:=by omega
 have hm:ps.length<=1000000:=by have:ps.length<=200000:=hlen;omega
 have FIN:∀(v':Value) (W5:World),TbAt 7 d bx W5 [] [] (ps++[(p s).1]) (.slice pn 0 cn) (.slice pe 0 ce) v'/\Kl b bx wr W5/\RdAt b T en (p s).2 W5->RdAt b T en (zad p ps s).2 W5/\SgAt b d bx b1 b2 depth (zad p ps s).1 W5/\Kl b bx wr W5:=fun v' W5 ⟨a1,a2,a3⟩=>⟨a3,⟨⟨_,_,_,a1⟩,(a2.2 _ (by omega) (by omega)).trans k1,(a2.2 _ (by omega) (by omega)).trans k2⟩,a2⟩
 have U1:∀u,Kx b wr u->u.cell? ⟨b1,0,none⟩=some (rp b):=fun u hu=>box1 ((hu.2 _ (by omega) (by omega)).trans k1)
 have U2:∀u,Kx b wr u->u.cell? ⟨b2,0,none⟩=some (.int .i64 depth):=fun u hu=>box1 ((hu.2 _ (by omega) (by omega)).trans k2)
 have U4:∀u,Kx b wr u->u.cell? ⟨bx,4,none⟩=some (.slice pp ps.length cp):=fun u hu=>(J8 (hT.still hu (by omega)).1).1.2.2.2.2
 go_enter Tryz.func155,Tryz.ntmps155;go_wp2_with fail;refine region_steps (by kernel_rfl) (by kernel_rfl) (SigInv b T en d (p s) s wr bx b1 b2 ps.length depth pn pe cn ce (.slice pp ps.length cp) (fun v' W5=>TbAt 7 d bx W5 [] [] (ps++[(p s).1]) (.slice pn 0 cn) (.slice pe 0 ce) v'/\Kl b bx wr W5/\RdAt b T en (p s).2 W5)) ?h0 ⟨?_,?_,?_,?_,?_,?_,?_,?_,?_,?_,?_,?_,?_,trivial⟩ ?fin
 case h0=>exact⟨_,_,_,_,_,_,_,_,_,_,_,rfl,(fun e=>nomatch e),(fun e=>nomatch e),(fun e=>nomatch e),(fun e=>nomatch e),(fun e=>nomatch e),(fun e=>nomatch e),(fun e=>nomatch e),(fun e=>nomatch e),(fun e=>nomatch e),(fun _=>⟨rfl,rfl,rfl⟩),(fun _=>⟨(Kl.refl _ _ _).drew,(fun _=>hR.drew),(fun e=>nomatch e),fun e=>nomatch e⟩),fun e=>nomatch e⟩
 case fin=>
  intro S a u hall hI;obtain⟨t3,t4,t5,t6,t7,t8,t9,t10,t11,t12,t13,rfl,s0,s1,s2,s3,s4,s6,s9,s11,s8,sn,sA,sB⟩:=hI;obtain⟨K,S2,qn,qe,qp,nn,m1,ne,m2,np,m3,g,cap,W4,-,-,-,-,-,-,-,-,-,-,-,v4⟩:=sB (hall 8 (by decide));have HV:=J4 (FIN _ _ (v4 (hall 10 (by decide)) (hall 12 (by decide))));clear sB v4 sA;go_wp2_with fail;exact bodyPost_end (v:=.tuple #[]) (by simp[results,Tryz.results155,go_sem]) rfl ⟨rfl,J0 HV⟩
 ·intro S a u hS hw hI;obtain⟨t3,t4,t5,t6,t7,t8,t9,t10,t11,t12,t13,rfl,s0,s1,s2,s3,s4,s6,s9,s11,s8,sn,sA,sB⟩:=hI;exact⟨by simp[Region.wanted],po_field4 rfl rfl ⟨_,_,_,_,_,_,_,_,_,_,_,rfl,(fun _=>rfl),s1,s2,s3,s4,s6,s9,s11,(fun e=>absurd e (not8 s8 (by decide) hS)),sn,sA,(fun e=>absurd e (not8 s8 (by decide) hS))⟩⟩
 ·intro S a u hS hw hI;obtain⟨t3,t4,t5,t6,t7,t8,t9,t10,t11,t12,t13,rfl,s0,s1,s2,s3,s4,s6,s9,s11,s8,sn,sA,sB⟩:=hI;have n8:S 8=false:=Bool.eq_false_iff.2 (not8 s8 (by decide) hS);obtain rfl:=s0 (hw 0 (by kernel_rfl));exact⟨by simp[Region.wanted],po_loadTs rfl rfl (U4 u (sA n8).1) ⟨_,_,_,_,_,_,_,_,_,_,_,rfl,s0,(fun _=>rfl),s2,s3,s4,s6,s9,s11,(fun e=>absurd e (not8 s8 (by decide) hS)),sn,sA,(fun e=>absurd e (not8 s8 (by decide) hS))⟩⟩
 ·intro S a u hS hw hI;obtain⟨t3,t4,t5,t6,t7,t8,t9,t10,t11,t12,t13,rfl,s0,s1,s2,s3,s4,s6,s9,s11,s8,sn,sA,sB⟩:=hI;have n8:S 8=false:=Bool.eq_false_iff.2 (not8 s8 (by decide) hS);exact⟨by simp[Region.wanted],po_loadR rfl rfl (U1 u (sA n8).1) ⟨_,_,_,_,_,_,_,_,_,_,_,rfl,s0,s1,(fun _=>rfl),s3,s4,s6,s9,s11,(fun e=>absurd e (not8 s8 (by decide) hS)),sn,sA,(fun e=>absurd e (not8 s8 (by decide) hS))⟩⟩
 ·intro S a u hS hw hI;obtain⟨t3,t4,t5,t6,t7,t8,t9,t10,t11,t12,t13,rfl,s0,s1,s2,s3,s4,s6,s9,s11,s8,sn,sA,sB⟩:=hI;have n8:S 8=false:=Bool.eq_false_iff.2 (not8 s8 (by decide) hS);exact⟨by simp[Region.wanted],po_loadI rfl rfl (U2 u (sA n8).1) ⟨_,_,_,_,_,_,_,_,_,_,_,rfl,s0,s1,s2,(fun _=>rfl),s4,s6,s9,s11,(fun e=>absurd e (not8 s8 (by decide) hS)),sn,sA,(fun e=>absurd e (not8 s8 (by decide) hS))⟩⟩
 ·intro S a u hS hw hI;obtain⟨t3,t4,t5,t6,t7,t8,t9,t10,t11,t12,t13,rfl,s0,s1,s2,s3,s4,s6,s9,s11,s8,sn,sA,sB⟩:=hI;obtain rfl:=s3 (hw 3 (by kernel_rfl));exact⟨by simp[Region.wanted],po_add1 h0 h1 rfl rfl rfl ⟨_,_,_,_,_,_,_,_,_,_,_,rfl,s0,s1,s2,s3,(fun _=>rfl),s6,s9,s11,(fun e=>absurd e (not8 s8 (by decide) hS)),sn,sA,(fun e=>absurd e (not8 s8 (by decide) hS))⟩⟩
 ·intro S a u hS hw hI;obtain⟨t3,t4,t5,t6,t7,t8,t9,t10,t11,t12,t13,rfl,s0,s1,s2,s3,s4,s6,s9,s11,s8,sn,sA,sB⟩:=hI;have n8:S 8=false:=Bool.eq_false_iff.2 (not8 s8 (by decide) hS);obtain rfl:=s2 (hw 2 (by kernel_rfl));obtain rfl:=s4 (hw 4 (by kernel_rfl));have A:=sA n8;have h5:S 5=false:=hS;rw[h5]at A;exact⟨by simp[Region.wanted],po_call (us:=#[rp b,.int .i64 (depth+1)]) rfl (by simp[Act.eval]) zci ((hP s u (A.2.1 rfl)).mono fun e w1 ⟨K,S2,qn,qe,qp,nn,m1,ne,m2,np,m3,he,r1,r2,r3⟩=>⟨_,he,⟨_,_,_,_,_,_,_,_,_,_,_,rfl,s0,s1,s2,s3,s4,s6,s9,s11,(fun e=>absurd e (not8 s8 (by decide) hS)),sn,(fun _=>A.call hbw r1 r2 r3),(fun e=>absurd e (not8 s8 (by decide) hS))⟩⟩)⟩
 ·intro S a u hS hw hI;obtain⟨t3,t4,t5,t6,t7,t8,t9,t10,t11,t12,t13,rfl,s0,s1,s2,s3,s4,s6,s9,s11,s8,sn,sA,sB⟩:=hI;obtain rfl:=s1 (hw 1 (by kernel_rfl));exact⟨by simp[Region.wanted],po_len Tryz.underlying25 rfl rfl ⟨_,_,_,_,_,_,_,_,_,_,_,rfl,s0,s1,s2,s3,s4,(fun _=>rfl),s9,s11,(fun e=>absurd e (not8 s8 (by decide) hS)),sn,sA,(fun e=>absurd e (not8 s8 (by decide) hS))⟩⟩
 ·intro S a u hS hw hI;obtain⟨t3,t4,t5,t6,t7,t8,t9,t10,t11,t12,t13,rfl,s0,s1,s2,s3,s4,s6,s9,s11,s8,sn,sA,sB⟩:=hI;have n8:S 8=false:=Bool.eq_false_iff.2 (not8 s8 (by decide) hS);have A:=sA n8;have h7:S 7=false:=hS;rw[h7]at A;exact⟨by simp[Region.wanted],po_lay rfl rfl ⟨_,_,_,_,_,_,_,_,_,_,_,rfl,s0,s1,s2,s3,s4,s6,s9,s11,(fun e=>absurd e (not8 s8 (by decide) hS)),sn,(fun _=>A.alloc hbw),(fun e=>absurd e (not8 s8 (by decide) hS))⟩⟩
 ·intro S a u hS hw hI;obtain⟨t3,t4,t5,t6,t7,t8,t9,t10,t11,t12,t13,rfl,s0,s1,s2,s3,s4,s6,s9,s11,s8,sn,sA,sB⟩:=hI;obtain rfl:=s1 (hw 1 (by kernel_rfl));have A:=sA hS;rw[hw 5 (by kernel_rfl),hw 7 (by kernel_rfl)]at A;obtain⟨a1,-,a3,a4⟩:=A;obtain⟨r,K,S2,qn,qe,qp,nn,m1,ne,m2,np,m3,hi,rfl,hh,hv⟩:=a3 rfl;obtain⟨B,rfl,hB1,hB2⟩:=a4 rfl;obtain⟨e1,g,cap,W4,E,e2,e3,e4,e5,e6,e7,e8,e9,HY⟩:=hT.part2 (b:=b) (lo:=bx) (by omega) (Nat.le_refl _) a1 r (Below.refl _ _) hB2 (u:=[.int .i64 K,.string S2,.slice qn nn m1,.slice qe ne m2,.slice qp np m3]) (fun V hV=>hv V fun j j1 j2=>hV j j1 (by omega)) rfl hm;have n:=sn hS;have w0:=hw 0 (by kernel_rfl);have w2:=hw 2 (by kernel_rfl);have w3:=hw 3 (by kernel_rfl);have w4:=hw 4 (by kernel_rfl);have w5:=hw 5 (by kernel_rfl);have w6:=hw 6 (by kernel_rfl);have w7:=hw 7 (by kernel_rfl);have w1:=hw 1 (by kernel_rfl);exact⟨by simp[Region.wanted],po_append rfl rfl rfl E ⟨_,_,_,_,_,_,_,_,_,_,_,rfl,s0,s1,s2,s3,s4,s6,(fun e=>absurd (n.2.1.symm.trans e) (by decide)),s11,(fun _ i hi=>match i,hi with|0,_=>w0|1,_=>w1|2,_=>w2|3,_=>w3|4,_=>w4|5,_=>w5|6,_=>w6|7,_=>w7),(fun e=>nomatch e),(fun e=>nomatch e),(fun _=>⟨K,S2,qn,qe,qp,nn,m1,ne,m2,np,m3,g,cap,W4,rfl,rfl,HY,e5,e6,e7,e2,e3,(fun _ _=>rfl),(fun _ h=>absurd (n.2.2.symm.trans h) (by decide)),(fun h _=>absurd (n.1.symm.trans h) (by decide)),fun h _=>absurd (n.1.symm.trans h) (by decide)⟩)⟩⟩
 ·intro S a u hS hw hI;obtain⟨t3,t4,t5,t6,t7,t8,t9,t10,t11,t12,t13,rfl,s0,s1,s2,s3,s4,s6,s9,s11,s8,sn,sA,sB⟩:=hI;obtain rfl:=s6 (hw 6 (by kernel_rfl));have w8:=hw 8 (by kernel_rfl);obtain⟨K,S2,qn,qe,qp,nn,m1,ne,m2,np,m3,g,cap,W4,rfl,rfl,HY,e5,e6,e7,e2,e3,v1,v2,v3,v4⟩:=sB w8;exact⟨by simp[Region.wanted],po_index rfl rfl rfl (by omega) ⟨_,_,_,_,_,_,_,_,_,_,_,rfl,s0,s1,s2,s3,s4,s6,(fun _=>⟨g,cap,rfl,rfl⟩),s11,(fun e i hi=>(Bool.or_eq_true _ _).mpr (.inr (s8 e i hi))),(fun e=>absurd (e.symm.trans w8) (by decide)),(fun e=>absurd (e.symm.trans w8) (by decide)),(fun _=>⟨K,S2,qn,qe,qp,nn,m1,ne,m2,np,m3,g,cap,_,rfl,rfl,HY,e5,e6,e7,e2,e3,v1,v2,v3,v4⟩)⟩⟩
 ·intro S a u hS hw hI;obtain⟨t3,t4,t5,t6,t7,t8,t9,t10,t11,t12,t13,rfl,s0,s1,s2,s3,s4,s6,s9,s11,s8,sn,sA,sB⟩:=hI;have w8:=hw 8 (by kernel_rfl);obtain⟨K,S2,qn,qe,qp,nn,m1,ne,m2,np,m3,g,cap,W4,rfl,rfl,HY,e5,e6,e7,e2,e3,v1,v2,v3,v4⟩:=sB w8;obtain⟨g',cap',eg,rfl⟩:=s9 (hw 9 (by kernel_rfl));injection eg with eg _ _
  obtain rfl:g=g':=by simpa using eg
  obtain⟨z0,y0⟩:=e6 0 (by decide);obtain⟨z1,y1⟩:=e6 1 (by decide);obtain⟨z2,y2⟩:=e6 2 (by decide);obtain⟨z3,y3⟩:=e6 3 (by decide);obtain⟨z4,y4⟩:=e6 4 (by decide);rw[Nat.add_zero]at y0;have hgx:g≠bx:=by have:=HY.1.2;omega
  rcases hf:S 12 with _|_
  ·obtain rfl:=v1 hS hf;exact⟨by simp[Region.wanted],po_storeTy rfl rfl rfl rfl y0 y1 y2 y3 y4 e7 ⟨_,_,_,_,_,_,_,_,_,_,_,rfl,s0,s1,s2,s3,s4,s6,s9,s11,(fun e i hi=>(Bool.or_eq_true _ _).mpr (.inr (s8 e i hi))),(fun e=>absurd (e.symm.trans w8) (by decide)),(fun e=>absurd (e.symm.trans w8) (by decide)),(fun _=>⟨K,S2,qn,qe,qp,nn,m1,ne,m2,np,m3,g,cap,_,rfl,rfl,HY,e5,e6,e7,e2,e3,(fun e _=>nomatch e),(fun e _=>nomatch e),(fun _ _=>rfl),(fun _ h=>absurd (hf.symm.trans h) (by decide))⟩)⟩⟩
  ·obtain rfl:=v2 hS hf;have kk:∀i,(W4.setCell ⟨bx,4,none⟩ (.slice (some ⟨g,0,none⟩) (ps.length+1) cap)).cell? ⟨g,i,none⟩=W4.cell? ⟨g,i,none⟩:=fun i=>World.cell?_of_block (Below.heap_setCell _ _ _ _ hgx)
   have kf:∀i,(W4.setCell ⟨bx,4,none⟩ (.slice (some ⟨g,0,none⟩) (ps.length+1) cap)).frozen? ⟨g,i,none⟩=false:=fun i=>(World.frozen?_of_block (Below.heap_setCell _ _ _ _ hgx)).trans (e7 i)
   exact⟨by simp[Region.wanted],po_storeTy rfl rfl rfl rfl ((kk _).trans y0) ((kk _).trans y1) ((kk _).trans y2) ((kk _).trans y3) ((kk _).trans y4) kf ⟨_,_,_,_,_,_,_,_,_,_,_,rfl,s0,s1,s2,s3,s4,s6,s9,s11,(fun e i hi=>(Bool.or_eq_true _ _).mpr (.inr (s8 e i hi))),(fun e=>absurd (e.symm.trans w8) (by decide)),(fun e=>absurd (e.symm.trans w8) (by decide)),(fun _=>⟨K,S2,qn,qe,qp,nn,m1,ne,m2,np,m3,g,cap,_,rfl,rfl,HY,e5,e6,e7,e2,e3,(fun e _=>nomatch e),(fun e _=>nomatch e),(fun _ h=>absurd (hf.symm.trans h) (by decide)),(fun _ _=>ends2 (by omega) HY)⟩)⟩⟩
 ·intro S a u hS hw hI;obtain⟨t3,t4,t5,t6,t7,t8,t9,t10,t11,t12,t13,rfl,s0,s1,s2,s3,s4,s6,s9,s11,s8,sn,sA,sB⟩:=hI;have w8:=hw 8 (by kernel_rfl);exact⟨by simp[Region.wanted],po_field4 rfl rfl ⟨_,_,_,_,_,_,_,_,_,_,_,rfl,s0,s1,s2,s3,s4,s6,s9,(fun _=>rfl),(fun e i hi=>(Bool.or_eq_true _ _).mpr (.inr (s8 e i hi))),(fun e=>absurd (e.symm.trans w8) (by decide)),(fun e=>absurd (e.symm.trans w8) (by decide)),sB⟩⟩
 ·intro S a u hS hw hI;obtain⟨t3,t4,t5,t6,t7,t8,t9,t10,t11,t12,t13,rfl,s0,s1,s2,s3,s4,s6,s9,s11,s8,sn,sA,sB⟩:=hI;have w8:=hw 8 (by kernel_rfl);obtain⟨K,S2,qn,qe,qp,nn,m1,ne,m2,np,m3,g,cap,W4,rfl,rfl,HY,e5,e6,e7,e2,e3,v1,v2,v3,v4⟩:=sB w8;obtain rfl:=s11 (hw 11 (by kernel_rfl));have hgx:bx≠g:=by have:=HY.1.2;omega
  rcases he:S 10 with _|_
  ·obtain rfl:=v1 he hS;exact⟨by simp[Region.wanted],po_storeTs rfl rfl rfl rfl e2 e3 ⟨_,_,_,_,_,_,_,_,_,_,_,rfl,s0,s1,s2,s3,s4,s6,s9,s11,(fun e i hi=>(Bool.or_eq_true _ _).mpr (.inr (s8 e i hi))),(fun e=>absurd (e.symm.trans w8) (by decide)),(fun e=>absurd (e.symm.trans w8) (by decide)),(fun _=>⟨K,S2,qn,qe,qp,nn,m1,ne,m2,np,m3,g,cap,_,rfl,rfl,HY,e5,e6,e7,e2,e3,(fun _ e=>nomatch e),(fun _ _=>rfl),(fun h _=>absurd (he.symm.trans h) (by decide)),(fun h _=>absurd (he.symm.trans h) (by decide))⟩)⟩⟩
  ·obtain rfl:=v3 he hS;have hb:(((((W4.setCell ⟨g,ps.length*5,none⟩ (.int .i64 K)).setCell ⟨g,ps.length*5+1,none⟩ (.string S2)).setCell ⟨g,ps.length*5+2,none⟩ (.slice qn nn m1)).setCell ⟨g,ps.length*5+3,none⟩ (.slice qe ne m2)).setCell ⟨g,ps.length*5+4,none⟩ (.slice qp np m3)).heap[bx]?=W4.heap[bx]?:=by rw[Below.heap_setCell _ _ _ _ hgx,Below.heap_setCell _ _ _ _ hgx,Below.heap_setCell _ _ _ _ hgx,Below.heap_setCell _ _ _ _ hgx,Below.heap_setCell _ _ _ _ hgx]
   exact⟨by simp[Region.wanted],po_storeTs rfl rfl rfl rfl ((World.cell?_of_block hb).trans e2) ((World.frozen?_of_block hb).trans e3) ⟨_,_,_,_,_,_,_,_,_,_,_,rfl,s0,s1,s2,s3,s4,s6,s9,s11,(fun e i hi=>(Bool.or_eq_true _ _).mpr (.inr (s8 e i hi))),(fun e=>absurd (e.symm.trans w8) (by decide)),(fun e=>absurd (e.symm.trans w8) (by decide)),(fun _=>⟨K,S2,qn,qe,qp,nn,m1,ne,m2,np,m3,g,cap,_,rfl,rfl,HY,e5,e6,e7,e2,e3,(fun _ e=>nomatch e),(fun h _=>absurd (he.symm.trans h) (by decide)),(fun _ e=>nomatch e),(fun _ _=>ends1 (by omega) HY)⟩)⟩⟩
end Go.Proofs.YtdamlfkieecnjaaGreatDoor
namespace Go.Proofs.YtdamlfkieecnjaaGreatDoor
open Go Go.RowKit Lx
theorem zea (args:Array Value) (w:World):Sem.run Tryz.prog (callFunc 86 args) w=.ok (.enter 86 args) w:=by kernel_rfl
theorem SgAt.first {b d bx b1 b2:Nat} {depth:Int} {w2 W:World} (hW:W=w2.alloc (.cells #[.int .i64 7,.string ⟨#[]⟩,.slice none 0 0,.slice none 0 0,.slice none 0 0] 27)) (hbx:bx=w2.heap.size) (k1:w2.heap[b1]?=some (.cells #[rp b] 170)) (k2:w2.heap[b2]?=some (.cells #[.int .i64 depth] 3)):SgAt b d bx b1 b2 depth ([]:List (Ty (d+1))) W:=by
 subst hW hbx;exact⟨⟨_,_,_,J6 _ _,Row.nil _ _ _,Row.nil _ _ _,Row.nil _ _ _⟩,(J9 _ _ (Array.getElem?_eq_some_iff.1 k1).1).trans k1,(J9 _ _ (Array.getElem?_eq_some_iff.1 k2).1).trans k2⟩
theorem ty_done {K en:Int} {d b bx k0:Nat} {T:TypeId} {s:RS} {w W:World} {ns:List Bs} {es:List Bool} {ps:List (Ty (d+1))} {vN vE vP:Value} (h1:TbAt K d bx W ns es ps vN vE vP) (h2:W.heap[k0]?=some tyO) (h3:RdAt b T en s W) (h4:Kl b w.heap.size w W) (hb:b<w.heap.size) (hk0:w.heap.size<=k0) (hbx:k0<bx) (W6:World) (e:W6=((((W.setCell ⟨k0,0,none⟩ (.int .i64 K)).setCell ⟨k0,1,none⟩ (.string ⟨#[]⟩)).setCell ⟨k0,2,none⟩ vN).setCell ⟨k0,3,none⟩ vE).setCell ⟨k0,4,none⟩ vP) :
  W6.heap[k0]?=some (.cells #[.int .i64 K,.string ⟨#[]⟩,vN,vE,vP] 27)/\RdAt b T en s W6/\Kx b w W6/\∀V:World,(∀j,w.heap.size<=j->j<W6.heap.size->V.heap[j]?=W6.heap[j]?)->TyV V (d+1) (.agg #[.int .i64 K,.string ⟨#[]⟩,vN,vE,vP]) (zaf (d+1) K [] ns es ps):=by
 have hbk:b<k0:=by omega
 have k1:=Ja (i:=0) h2 (.int .i64 K);have k2:=Ja (i:=1) k1 (.string ⟨#[]⟩);have k3:=Ja (i:=2) k2 vN;have k4:=Ja (i:=3) k3 vE;have k5:=Ja (i:=4) k4 vP;have r1:=(((((h3.put h2 (by decide) hbk 0 (.int .i64 K)).put k1 (by decide) hbk 1 (.string ⟨#[]⟩)).put k2 (by decide) hbk 2 vN).put k3 (by decide) hbk 3 vE).put k4 (by decide) hbk 4 vP)
 have hbl:=Nat.le_of_lt hb;have r2:=((((h4.setHigh (i:=0) hbl hk0 (.int .i64 K)).setHigh (i:=1) hbl hk0 (.string ⟨#[]⟩)).setHigh (i:=2) hbl hk0 vN).setHigh (i:=3) hbl hk0 vE).setHigh (i:=4) hbl hk0 vP;have hs:W6.heap.size=W.heap.size:=by rw[e];simp
 have hk:∀j,j≠k0->W6.heap[j]?=W.heap[j]?:=fun j hj=>by rw[e,Below.heap_setCell _ _ _ _ hj,Below.heap_setCell _ _ _ _ hj,Below.heap_setCell _ _ _ _ hj,Below.heap_setCell _ _ _ _ hj,Below.heap_setCell _ _ _ _ hj]
 rw[<-e]at k5 r1 r2;refine⟨k5,r1,r2,fun V hV=>?_⟩;have hV2:∀j,bx+1<=j->j<W.heap.size->V.heap[j]?=W.heap[j]?:=fun j j1 j2=>(hV j (by omega) (by omega)).trans (hk j (by omega))
 have q1:=h1.2.1.strs hV2;have q2:=h1.2.2.1.bools hV2;have q3:=h1.2.2.2.types hV2;obtain⟨pn,cn,pe,ce,pp,cp,rfl,rfl,rfl⟩:=h1.slices;exact⟨pn,pe,pp,cn,ce,cp,rfl,q1,q2,q3⟩
end Go.Proofs.YtdamlfkieecnjaaGreatDoor
namespace Go.Proofs.YtdamlfkieecnjaaGreatDoor
open Go Go.RowKit Lx
abbrev sgO:Obj:=.cells #[.int .i64 7,.string ⟨#[]⟩,.slice none 0 0,.slice none 0 0,.slice none 0 0] 27
theorem onto_one {α:Type} {p:RS->α×RS} (a:List α) (s:RS):(zad p a s).1.length<=a.length+1:=by simp[zad]
theorem sig_commas (b:Nat) (T:TypeId) (en:Int) (d:Nat) (p:RS->Ty (d+1)×RS) (hp:Less p) (depth:Int) (h0:0<=depth) (h1:depth<=100) (hP:za1 b T en 43 #[rp b,.int .i64 (depth+1)] d p) (b1 b2:Nat) (hb1:b<b1) (hb2:b1<b2) (s:RS) (hn:s.1.length<=100000) (w2:World) (hb3:b2<w2.heap.size) (hR:RdAt b T en s w2) (k1:w2.heap[b1]?=some (.cells #[rp b] 170)) (k2:w2.heap[b2]?=some (.cells #[.int .i64 depth] 3)) :
  Calls Tryz.prog 156 #[rp b,.string ⟨#[41]⟩,.func (.func 155) #[] #[.pointer (some ⟨w2.heap.size,0,none⟩),.pointer (some ⟨b1,0,none⟩),.pointer (some ⟨b2,0,none⟩)]] (w2.alloc sgO) fun e w'=>e=.returned (.tuple #[])/\RdAt b T en (Jj en [41] (zad p) [] s).2 w'/\SgAt b d w2.heap.size b1 b2 depth (Jj en [41] (zad p) [] s).1 w'/\Kl b w2.heap.size (w2.alloc sgO) w':=
 pCommas_any b w2.heap.size T en (SgAt b d w2.heap.size b1 b2 depth) (fun _ _ _ h hx=>h.still hx (by omega) (by omega) (by omega)) _ (fun _ _=>by kernel_rfl) _ (zad p) (fun _ s=>hp s) List.length onto_one (sigThing b T en d p depth h0 h1 hP w2.heap.size b1 b2 hb1 hb2 hb3) [41] [] s _ (hR.alloc _) (SgAt.first rfl rfl k1 k2) (by simp) (by simp;omega)
theorem zbt (b:Nat) (T:TypeId) (en:Int) (d:Nat) (s:RS) (depth:Int) (hx:zd4 zdl s depth=false) (w:World) (h:RdAt b T en s w) :
  Calls Tryz.prog 90 #[rp b,.int .i64 depth] w fun e w'=>e=.returned (Jc 0 ⟨#[]⟩ none none none 0 0 0 0 0 0)/\RdAt b T en (zbq zdl en s depth) w'/\Kx b w w'/\∀V:World,(∀j,w.heap.size<=j->j<w'.heap.size->V.heap[j]?=w'.heap[j]?)->TyV V d (Jc 0 ⟨#[]⟩ none none none 0 0 0 0 0 0) (zTy d):=by
 have hl:=h.lt;obtain⟨W0,hW0⟩:∃W,W=((w.alloc (.cells #[rp b] 170)).alloc (.cells #[.int .i64 depth] 3)).alloc tyO:=⟨_,rfl⟩
 have hs0:W0.heap.size=w.heap.size+3:=by rw[hW0];simp
 have i1:W0.heap[w.heap.size]?=some (.cells #[rp b] 170):=by rw[hW0,J9 _ _ (by simp;omega),J9 _ _ (by simp)];exact J6 _ _
 have i2:W0.heap[w.heap.size+1]?=some (.cells #[.int .i64 depth] 3):=by rw[hW0,J9 _ _ (by simp)];exact zar _ _ (by simp)
 have i3:W0.heap[w.heap.size+2]?=some tyO:=by rw[hW0];exact zar _ _ (by simp)
 have hR0:RdAt b T en s W0:=by rw[hW0];exact((h.alloc _).alloc _).alloc _
 have hK0:Kl b w.heap.size w W0:=by rw[hW0];exact(((Kl.refl _ _ _).alloc (Nat.le_of_lt hl) (Nat.le_refl _) _).alloc (Nat.le_of_lt hl) (by simp) _).alloc (Nat.le_of_lt hl) (by simp;omega) _
 have EN:Hid (Calls Tryz.prog 86 #[rp b,.func (.func 154) #[] #[],.int .i64 depth] W0.drew fun e w1=>e=.returned (.bool false)/\RdAt b T en (zbq zdl en s depth) w1/\Kx b W0 w1):=
  (zek b T en s 154 zdl begS_any depth W0.drew hR0.drew).mono fun _ _ ⟨e,r1,r2⟩=>⟨by rw[e,hx],r1,r2.undrew⟩
 have c1:=box1 i1;have c2:=box1 i2;have HI:=J4 (And.intro i3 hK0);clear hx h hR0 i1 i2 i3 hK0;go_enter Tryz.func90,Tryz.ntmps90;go_upto_region 1 with fail
 rw[<-hW0];clear hW0
 go_region_law (refine JJ (us:=#[rp b,.func (.func 154) #[] #[],.int .i64 depth]) rfl 86 _ _ rfl (by first|(simp[Act.eval];done)|simp[Act.eval,Act.put]) zea ?_;refine(J0 EN).mono ?_;rintro e w1 ⟨rfl,r1,r2⟩;refine⟨_,rfl,?_⟩;have R1:=J4 r1;have R2:=J4 r2;clear r1 r2)
 all_goals
  have k3:w1.heap[w.heap.size+2]?=some tyO:=((J0 R2).2 _ (by omega) (by omega)).trans (J0 HI).1;obtain⟨⟨z0,z1,z2,z3,z4⟩,zf⟩:=J8 k3;have K3:=J4 k3;clear k3 c1 c2;go_wp2;obtain⟨Wf,hWf⟩:∃Wf:World,Wf=((((w1.setCell ⟨w.heap.size+2,0,none⟩ (.int .i64 0)).setCell ⟨w.heap.size+2,1,none⟩ (.string ⟨#[]⟩)).setCell ⟨w.heap.size+2,2,none⟩ (.slice none 0 0)).setCell ⟨w.heap.size+2,3,none⟩ (.slice none 0 0)).setCell ⟨w.heap.size+2,4,none⟩ (.slice none 0 0):=⟨_,rfl⟩
  simp only[Nat.add_assoc,Nat.reduceAdd];rw[<-hWf];obtain⟨d1,d2,d3,d4⟩:=zch (wb:=w1) (t:=zTy d) (J0 K3) (J0 R1) ((J0 HI).2.trans ((J0 R2).mono (by omega))) hl (by omega) (Array.getElem?_eq_some_iff.1 (J0 K3)).1 (fun V _=>zTyV V d) Wf hWf;obtain⟨⟨y0,y1,y2,y3,y4⟩,-⟩:=J8 d1;exact bodyPost_ret (v:=Jc 0 ⟨#[]⟩ none none none 0 0 0 0 0 0) (by simp[results,Tryz.results90,go_sem,y0,y1,y2,y3,y4]) rfl ⟨rfl,d2,d3,d4⟩
end Go.Proofs.YtdamlfkieecnjaaGreatDoor
namespace Go.Proofs.YtdamlfkieecnjaaGreatDoor
open Go Go.RowKit Lx
theorem zdd {α:Type} {p:RS->α×RS}:∀(f:Nat) (a:List α) (s:RS),(Jl (zad p) f a s).1.length<=a.length+f
 | 0,_,_=>Nat.le_refl _
 | f+1,a,s=>by
  rw[Jl];split
  ·have h1:=zdd (p:=p) f (zad p a (J7 s)).1 (zad p a (J7 s)).2;have h2:=onto_one (p:=p) a (J7 s);omega
  ·simp
theorem commasP_count {α:Type} {en:Int} {e:Bs} {p:RS->α×RS} (hp:Less p) (s:RS):(Jj en e (zad p) [] s).1.length<=s.1.length+2:=by
 rw[Jj];split
 ·simp
 ·have h1:=zdd (p:=p) ((zad p [] s).2.1.length+1) (zad p [] s).1 (zad p [] s).2;have h2:=onto_one (p:=p) [] s;have h3:(zad p [] s).2.1.length<=s.1.length:=hp s;simp only[List.length_nil]at h2;simp only;omega
theorem zdr (b:Nat) (T:TypeId) (en:Int) (d:Nat) (p:RS->Ty (d+1)×RS) (hp:Less p) (depth:Int) (h0:0<=depth) (h1:depth<=100) (hP:za1 b T en 43 #[rp b,.int .i64 (depth+1)] d p) (s:RS) (hx:zd4 zdl s depth=true) (w:World) (h:RdAt b T en s w) :
  Calls Tryz.prog 90 #[rp b,.int .i64 depth] w fun e w'=>∃(K:Int) (S:ByteArray) (pn pe pp:Option Addr) (nn cn ne ce np cp:Nat),e=.returned (Jc K S pn pe pp nn cn ne ce np cp)/\RdAt b T en (sigP en p (J7 s)).2 w'/\Kx b w w'/\∀V:World,(∀j,w.heap.size<=j->j<w'.heap.size->V.heap[j]?=w'.heap[j]?)->TyV V (d+1) (Jc K S pn pe pp nn cn ne ce np cp) (zaf (d+1) 7 [] [] [] (sigP en p (J7 s)).1):=by
 have hl:=h.lt;have hn:s.1.length<=100000:=by obtain⟨_,_,_,h,_⟩:=h;exact h.1
 have hn1:(J7 s).1.length<=100000:=by have:=Jt s;omega
 obtain⟨W0,hW0⟩:∃W,W=((w.alloc (.cells #[rp b] 170)).alloc (.cells #[.int .i64 depth] 3)).alloc tyO:=⟨_,rfl⟩
 have hs0:W0.heap.size=w.heap.size+3:=by rw[hW0];simp
 have i1:W0.heap[w.heap.size]?=some (.cells #[rp b] 170):=by rw[hW0,J9 _ _ (by simp;omega),J9 _ _ (by simp)];exact J6 _ _
 have i2:W0.heap[w.heap.size+1]?=some (.cells #[.int .i64 depth] 3):=by rw[hW0,J9 _ _ (by simp)];exact zar _ _ (by simp)
 have i3:W0.heap[w.heap.size+2]?=some tyO:=by rw[hW0];exact zar _ _ (by simp)
 have hR0:RdAt b T en s W0:=by rw[hW0];exact((h.alloc _).alloc _).alloc _
 have hK0:Kl b w.heap.size w W0:=by rw[hW0];exact(((Kl.refl _ _ _).alloc (Nat.le_of_lt hl) (Nat.le_refl _) _).alloc (Nat.le_of_lt hl) (by simp) _).alloc (Nat.le_of_lt hl) (by simp;omega) _
 have hent:zbq zdl en s depth=s:=by
  simp only[zd4,Bool.and_eq_true,decide_eq_true_eq]at hx;simp[zbq,hx.1,show ¬64<depth by omega]
 have EN:Hid (Calls Tryz.prog 86 #[rp b,.func (.func 154) #[] #[],.int .i64 depth] W0.drew fun e w1=>e=.returned (.bool true)/\RdAt b T en s w1/\Kx b W0 w1):=
  (zek b T en s 154 zdl begS_any depth W0.drew hR0.drew).mono fun _ _ ⟨e,r1,r2⟩=>⟨by rw[e,hx],hent ▸ r1,r2.undrew⟩
 have TK:=J4 (JP b T en s);have CM:=J4 (sig_commas b T en d p hp depth h0 h1 hP w.heap.size (w.heap.size+1) hl (by omega) (J7 s) hn1);have TH:Hid (∀bx,w.heap.size+1<bx->Thing b bx T en (SgAt b d bx w.heap.size (w.heap.size+1) depth) List.length 155 #[.pointer (some ⟨bx,0,none⟩),.pointer (some ⟨w.heap.size,0,none⟩),.pointer (some ⟨w.heap.size+1,0,none⟩)] (zad p)):=fun bx hb=>sigThing b T en d p depth h0 h1 hP bx _ _ hl (by omega) hb
 have HL:Hid ((Jj en [41] (zad p) [] (J7 s)).1.length<=200000):=by
  have:=commasP_count (en:=en) (e:=[41]) hp (J7 s);show _<=_;omega
 have c1:=box1 i1;have c2:=box1 i2;have HI:=J4 (And.intro i1 (And.intro i2 (And.intro i3 hK0)));clear hx h hR0 i1 i2 i3 hK0 hP hp hent hn hn1;go_enter Tryz.func90,Tryz.ntmps90;go_upto_region 1 with fail
 rw[<-hW0];clear hW0
 go_region_law (refine JJ (us:=#[rp b,.func (.func 154) #[] #[],.int .i64 depth]) rfl 86 _ _ rfl (by first|(simp[Act.eval];done)|simp[Act.eval,Act.put]) zea ?_;refine(J0 EN).mono ?_;rintro e w1 ⟨rfl,r1,r2⟩;refine⟨_,rfl,?_⟩;have R1:=J4 r1;have R2:=J4 r2;clear r1 r2)
 all_goals
  have k1:w1.heap[w.heap.size]?=some (.cells #[rp b] 170):=((J0 R2).2 _ (by omega) (by omega)).trans (J0 HI).1;have k2:w1.heap[w.heap.size+1]?=some (.cells #[.int .i64 depth] 3):=((J0 R2).2 _ (by omega) (by omega)).trans (J0 HI).2.1;have k3:w1.heap[w.heap.size+2]?=some tyO:=((J0 R2).2 _ (by omega) (by omega)).trans (J0 HI).2.2.1;have hz1:w.heap.size+2<w1.heap.size:=(Array.getElem?_eq_some_iff.1 k3).1;clear c1 c2;have c1:=box1 k1;have KK:=J4 (And.intro k1 (And.intro k2 k3));have HK:=J4 ((J0 HI).2.2.2.trans ((J0 R2).mono (by omega)));clear k1 k2 k3 EN;go_upto_region 6 with(go_at_call 88;refine(J0 TK _ (J0 R1)).mono ?_;clear TK;rintro e w2 ⟨rfl,q1,q2⟩;have Q1:=J4 q1;have Q2:=J4 q2;clear q1 q2)
  have k1:w2.heap[w.heap.size]?=some (.cells #[rp b] 170):=((J0 Q2).2 _ (by omega) (by omega)).trans (J0 KK).1;have k2:w2.heap[w.heap.size+1]?=some (.cells #[.int .i64 depth] 3):=((J0 Q2).2 _ (by omega) (by omega)).trans (J0 KK).2.1;have k3:w2.heap[w.heap.size+2]?=some tyO:=((J0 Q2).2 _ (by omega) (by omega)).trans (J0 KK).2.2;have hz2:w.heap.size+2<w2.heap.size:=(Array.getElem?_eq_some_iff.1 k3).1;have CM':=J4 (J0 CM w2 (by omega) (J0 Q1) k1 k2);obtain⟨bx,hbx⟩:∃bx,bx=w2.heap.size:=⟨_,rfl⟩
  obtain⟨W,hW⟩:∃W,W=w2.alloc sgO:=⟨_,rfl⟩
  rw[<-hbx,<-hW]at CM';have m1:W.cell? ⟨w.heap.size,0,none⟩=some (rp b):=by rw[hW];exact box1 ((J9 _ _ (by omega)).trans k1)
  have M3:Hid (W.heap[w.heap.size+2]?=some tyO):=by rw[hW];exact(J9 _ _ hz2).trans k3
  have MK:Hid (Kl b w.heap.size w W):=by rw[hW];exact((J0 HK).trans ((J0 Q2).mono (J0 HK).size)).alloc (Nat.le_of_lt hl) (by omega) _
  have hzb:bx<=W.heap.size:=by rw[hW,hbx];simp
  rw[<-hW,<-hbx];clear hW k1 k2 k3 c1 CM;have hbx2:w.heap.size+1<bx:=by omega
  have hbx3:w.heap.size+2<bx:=by omega
  clear hbx;go_upto_region 7 with(go_at_call 156;refine(J0 CM').mono ?_;clear CM';rintro e w4 ⟨rfl,q1,q2,q3⟩;have Q4:=J4 (And.intro q1 (And.intro q2 q3));clear q1 q2 q3)
  obtain⟨s4,hs4⟩:∃s4,s4=(Jj en [41] (zad p) [] (J7 s)).2:=⟨_,rfl⟩
  obtain⟨l4,hl4⟩:∃l4,l4=(Jj en [41] (zad p) [] (J7 s)).1:=⟨_,rfl⟩
  have HL4:Hid (l4.length<=200000):=by rw[hl4];exact J0 HL
  rw[<-hs4,<-hl4]at Q4;have HE:=J4 (And.intro hs4 hl4);have TC:=J4 (J0 TH bx hbx2 l4 s4 w4 (J0 Q4).1 (J0 Q4).2.1 (Nat.le_trans hzb (J0 Q4).2.2.size) (J0 HL4));clear hs4 hl4 HL TH;go_upto_region 8 with(go_at_call 155;refine(J0 TC).mono ?_;clear TC;rintro e w5 ⟨rfl,r1,⟨⟨vN,vE,vP,hT⟩,-,-⟩,r3⟩;have R5:=J4 (And.intro r1 (And.intro hT r3));clear r1 hT r3)
  obtain⟨r1,hT,r3⟩:=J0 R5;obtain⟨pn,cn,pe,ce,pp,cp,rfl,rfl,rfl⟩:=hT.slices;have k5:w5.heap[w.heap.size+2]?=some tyO:=(r3.2 _ (by omega) (by omega)).trans (((J0 Q4).2.2.2 _ (by omega) (by omega)).trans (J0 M3));have HK5:Hid (Kl b w.heap.size w w5):=(J0 MK).trans (((J0 Q4).2.2.mono (by omega)).trans (r3.mono (by omega)));obtain⟨⟨x0,x1,x2,x3,x4⟩,-⟩:=J8 hT.1;obtain⟨⟨z0,z1,z2,z3,z4⟩,zf⟩:=J8 k5;obtain⟨N,hN⟩:∃N,N=(zad p l4 s4).1.length:=⟨_,rfl⟩
  rw[<-hN]at x4;have HN:=J4 hN;have HT:=J4 hT;have HR:=J4 r1;have K5:=J4 k5;clear hN hT r1 k5 r3 R5 Q4 m1 M3 MK;go_wp2;simp only[Nat.add_assoc,Nat.reduceAdd];obtain⟨Wf,hWf⟩:∃Wf:World,Wf=((((w5.setCell ⟨w.heap.size+2,0,none⟩ (.int .i64 7)).setCell ⟨w.heap.size+2,1,none⟩ (.string ⟨#[]⟩)).setCell ⟨w.heap.size+2,2,none⟩ (.slice pn 0 cn)).setCell ⟨w.heap.size+2,3,none⟩ (.slice pe 0 ce)).setCell ⟨w.heap.size+2,4,none⟩ (.slice pp N cp):=⟨_,rfl⟩
  rw[<-hWf];rw[J0 HN]at hWf;obtain⟨d1,d2,d3,d4⟩:=ty_done (J0 HT) (J0 K5) (J0 HR) (J0 HK5) hl (by omega) (by omega) Wf hWf;rw[<-J0 HN]at d1 d4;obtain⟨⟨y0,y1,y2,y3,y4⟩,-⟩:=J8 d1;obtain⟨e1,e2⟩:=J0 HE;have e3:sigP en p (J7 s)=zad p l4 s4:=by rw[sigP,e1,e2]
  exact bodyPost_ret (v:=Jc 7 ⟨#[]⟩ pn pe pp 0 cn 0 ce N cp) (by simp[results,Tryz.results90,go_sem,y0,y1,y2,y3,y4]) rfl ⟨_,_,_,_,_,_,_,_,_,_,_,rfl,by rw[e3];exact d2,d3,by rw[e3];exact d4⟩
end Go.Proofs.YtdamlfkieecnjaaGreatDoor
namespace Go.Proofs.YtdamlfkieecnjaaGreatDoor
open Go Go.RowKit Lx
theorem sig_gives (b:Nat) (T:TypeId) (en:Int) (d:Nat) (p:RS->Ty (d+1)×RS) (hp:Less p) (depth:Int) (h0:0<=depth) (h1:depth<=64) (hP:za1 b T en 43 #[rp b,.int .i64 (depth+1)] d p) :
  za1 b T en 90 #[rp b,.int .i64 depth] (d+1) (zco en p):=fun s w h=>by
 unfold zco
 cases hb:zdl (J5 s)with
 | false=>
  have hx:zd4 zdl s depth=false:=by simp[zd4,hb]
  have he:zbq zdl en s depth=Jb en s:=by simp[zbq,hb]
  refine(zbt b T en (d+1) s depth hx w h).mono fun e w' ⟨q1,q2,q3,q4⟩=>?_
  rw[he]at q2;exact⟨0,⟨#[]⟩,none,none,none,0,0,0,0,0,0,q1,by simpa using q2,q3,fun V hV=>by simpa using q4 V hV⟩
 | true=>
  have hx:zd4 zdl s depth=true:=by simp[zd4,hb];omega
  refine(zdr b T en d p hp depth h0 (by omega) hP s hx w h).mono fun e w' q=>?_
  simpa using q
theorem readTS (b:Nat) (T:TypeId) (en:Int):∀d:Nat,d<=65->za1 b T en 43 #[rp b,.int .i64 (65-(d:Int))] d (pTS en d).1/\za1 b T en 90 #[rp b,.int .i64 (65-(d:Int))] d (pTS en d).2
 | 0,_=>by
  refine⟨fun s w h=>?_,fun s w h=>?_⟩
  ·have hx:zd4 za2 s 65=false:=by simp[zd4]
   exact(zep b T en 0 s 65 hx w h).mono fun e w' ⟨q1,q2,q3,q4⟩=>⟨0,⟨#[]⟩,none,none,none,0,0,0,0,0,0,q1,q2,q3,q4⟩
  ·have hx:zd4 zdl s 65=false:=by simp[zd4]
   exact(zbt b T en 0 s 65 hx w h).mono fun e w' ⟨q1,q2,q3,q4⟩=>⟨0,⟨#[]⟩,none,none,none,0,0,0,0,0,0,q1,q2,q3,q4⟩
 | d+1,hd=>by
  obtain⟨iT,iS⟩:=readTS b T en d (by omega);obtain⟨D,hD⟩:∃D:Int,D=65-((d+1:Nat):Int):=⟨_,rfl⟩
  have hD1:65-(d:Int)=D+1:=by omega
  have h0:0<=D:=by omega
  have h1:D<=64:=by omega
  rw[hD1]at iT iS;rw[<-hD];have hs:za1 b T en 90 #[rp b,.int .i64 D] (d+1) (pTS en (d+1)).2:=sig_gives b T en d _ (zah en d).1 D h0 h1 iT;refine⟨fun s w h=>?_,hs⟩;show Calls _ _ _ _ fun e w'=>∃(K:Int) (S:ByteArray) (pn pe pp:Option Addr) (nn cn ne ce np cp:Nat),e=.returned (Jc K S pn pe pp nn cn ne ce np cp)/\RdAt b T en (if za2 (J5 s)=true then tyA en (pTS en d).1 (pTS en d).2 (J5 s) (J7 s)else(zTy (d+1),Jb en s)).2 w'/\Kx b w w'/\∀V:World,(∀j,w.heap.size<=j->j<w'.heap.size->V.heap[j]?=w'.heap[j]?)->TyV V (d+1) (Jc K S pn pe pp nn cn ne ce np cp) (if za2 (J5 s)=true then tyA en (pTS en d).1 (pTS en d).2 (J5 s) (J7 s)else(zTy (d+1),Jb en s)).1
  cases hb:za2 (J5 s)with
  | false=>
   have hx:zd4 za2 s D=false:=by simp[zd4,hb]
   have he:zbq za2 en s D=Jb en s:=by simp[zbq,hb]
   refine(zep b T en (d+1) s D hx w h).mono fun e w' ⟨q1,q2,q3,q4⟩=>?_
   rw[he]at q2;exact⟨0,⟨#[]⟩,none,none,none,0,0,0,0,0,0,q1,by simpa using q2,q3,fun V hV=>by simpa using q4 V hV⟩
  | true=>
   have hx:zd4 za2 s D=true:=by simp[zd4,hb];omega
   obtain⟨a,k,S,n,hpk⟩:∃a k S n,J5 s=(a,k,S,n):=⟨_,_,_,_,rfl⟩
   rw[if_pos rfl,hpk];rw[hpk]at hb;by_cases hk:k=2
   ·have e1:tyA en (pTS en d).1 (pTS en d).2 (a,k,S,n) (J7 s)=(zaf (d+1) 4 S [] [] [],J7 s):=by simp[tyA,hk]
    rw[e1];exact(readType_name b T en (d+1) s D hx a k S n hpk hk w h).mono fun e w' ⟨q1,q2,q3,q4⟩=>⟨_,_,_,_,_,_,_,_,_,_,_,q1,q2,q3,q4⟩
   ·have hS:S∈zd5:=by
     have hk':(k==2)=false:=by simpa using hk
     simp only[za2,hk',Bool.false_or,isM,Bool.and_eq_true]at hb;simpa using hb.2
    simp only[zd5,List.mem_cons,List.not_mem_nil,or_false]at hS;rcases hS with rfl|rfl|rfl|rfl|rfl|rfl|rfl
    ·have e1:tyA en (pTS en d).1 (pTS en d).2 (a,k,[105,110,116],n) (J7 s)=(zaf (d+1) 1 [] [] [] [],J7 s):=by simp[tyA,hk]
     rw[e1];exact(readType_int b T en (d+1) s D hx a k n hpk hk w h).mono fun e w' ⟨q1,q2,q3,q4⟩=>⟨_,_,_,_,_,_,_,_,_,_,_,q1,q2,q3,q4⟩
    ·have e1:tyA en (pTS en d).1 (pTS en d).2 (a,k,[98,111,111,108],n) (J7 s)=(zaf (d+1) 2 [] [] [] [],J7 s):=by simp[tyA,hk]
     rw[e1];exact(readType_bool b T en (d+1) s D hx a k n hpk hk w h).mono fun e w' ⟨q1,q2,q3,q4⟩=>⟨_,_,_,_,_,_,_,_,_,_,_,q1,q2,q3,q4⟩
    ·have e1:tyA en (pTS en d).1 (pTS en d).2 (a,k,[116,101,120,116],n) (J7 s)=(zaf (d+1) 3 [] [] [] [],J7 s):=by simp[tyA,hk]
     rw[e1];exact(readType_text b T en (d+1) s D hx a k n hpk hk w h).mono fun e w' ⟨q1,q2,q3,q4⟩=>⟨_,_,_,_,_,_,_,_,_,_,_,q1,q2,q3,q4⟩
    ·have e1:tyA en (pTS en d).1 (pTS en d).2 (a,k,[42],n) (J7 s)=(zaf (d+1) 5 [] [] [] [((pTS en d).1 (J7 s)).1],((pTS en d).1 (J7 s)).2):=by simp[tyA,hk]
     rw[e1];exact readType_ptr b T en d s D h0 (by omega) hx a k n hpk hk _ iT w h
    ·have e1:∀s,tyA en (pTS en d).1 (pTS en d).2 (a,k,[123],n) s=(zaf (d+1) 6 [] (zb7 en (pTS en d).1 (s.1.length+1) [] [] [] s).1.2.1 (zb7 en (pTS en d).1 (s.1.length+1) [] [] [] s).1.1 (zb7 en (pTS en d).1 (s.1.length+1) [] [] [] s).1.2.2,(zb7 en (pTS en d).1 (s.1.length+1) [] [] [] s).2):=fun s=>by simp[tyA,hk]
     rw[e1];exact readType_rec b T en (d+1) s D hx a k n hpk hk _ (readRecord_any b T en d _ (zah en d).1 D h0 (by omega) iT) w h
    ·have e1:∀s,tyA en (pTS en d).1 (pTS en d).2 (a,k,[102,110],n) s=(pTS en (d+1)).2 s:=fun s=>by simp[tyA,hk];rfl
     rw[e1];exact readType_fn b T en (d+1) s D hx a k n hpk hk _ hs w h
    ·have e1:∀s,tyA en (pTS en d).1 (pTS en d).2 (a,k,[105,110,116,101,114,102,97,99,101],n) s=(zaf (d+1) 8 [] (zbs en (pTS en d).2 ((Je en s [123]).1.length+1) [] [] (Je en s [123])).1.1 [] (zbs en (pTS en d).2 ((Je en s [123]).1.length+1) [] [] (Je en s [123])).1.2,(zbs en (pTS en d).2 ((Je en s [123]).1.length+1) [] [] (Je en s [123])).2):=fun s=>by simp[tyA,hk]
     rw[e1];exact readType_ifa b T en (d+1) s D hx a k n hpk hk _ (zds b T en d _ (zah en d).2 D h0 (by omega) iS) w h
end Go.Proofs.YtdamlfkieecnjaaGreatDoor
