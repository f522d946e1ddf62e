import Derived.Test.YtdamlfkieecnjaaGreatDoorQPTok8
import Derived.Deep.RegionLaw
set_option maxHeartbeats 1000000
set_option maxRecDepth 100000
namespace Go.Proofs.YtdamlfkieecnjaaGreatDoor
open Go Go.RowKit Lx
theorem JJ {P:Program} {ops:Array Oper} {o:Oper} {a:Act} {w:World} {K:Act->World->Prop} {Q:Exit->Act->World->Prop} {E:Prop} (hg:o.guard=none) (f:FuncId) (xs:Array Operand) (ts:Array TypeId) (ho:o.op=.call { callee:=.value (.func f),args:=xs,argTypes:=ts })
  {us:Array Value} (hx:xs.map a.eval=us) (hF:∀args w,Sem.run P (callFunc f args) w=.ok (.enter f args) w) (h:Calls P f us w fun e w'=>∃v,e=.returned v/\K (a.put o.dst v) w'):if Region.wanted o (yielded ops a.tmps)=true then Oper.wp P o a w K Q else E:=by
 rw[if_pos (by simp[Region.wanted,hg])];unfold Oper.wp;have he:a.eval (.func f)=.func (.func f) #[] #[]:=rfl;simp[execOp,ho,resolve,invoke,hx,he,Deferred.ofValue,hF];refine h.mono ?_;rintro e w' ⟨v,rfl,hk⟩;exact hk
theorem zat {P:Program} {ops:Array Oper} {o:Oper} {a:Act} {w:World} {K:Act->World->Prop} {Q:Exit->Act->World->Prop} {E:Prop} (hg:o.guard=none) (s x:Operand) (t:TypeId) (ho:o.op=.call { callee:=.builtin .append,args:=#[s,x],argTypes:=#[t,t] })
  {v u v':Value} {w':World} (hs:a.eval s=v) (hx:a.eval x=u) (hr:(Builtin.append_ #[t,t] o.type #[v,u]).run P w=.ok v' w') (h:K (a.put o.dst v') w'):if Region.wanted o (yielded ops a.tmps)=true then Oper.wp P o a w K Q else E:=by
 rw[if_pos (by simp[Region.wanted,hg])];unfold Oper.wp;simp[execOp,ho,resolve,invoke,builtin,hs,hx,hr,Result.andThen];exact h
theorem inf_str:(Tryz.prog.info? 9).map (fun i=>(i.zero,i.size,i.bytes))=some (some (.string ⟨#[]⟩),1,16):=by kernel_rfl
theorem inf_bool:(Tryz.prog.info? 4).map (fun i=>(i.zero,i.size,i.bytes))=some (some (.bool false),1,1):=by kernel_rfl
theorem inf_ty:(Tryz.prog.info? 27).map (fun i=>(i.zero,i.size,i.bytes))=some (some (.agg #[.int .i64 0,.string ⟨#[]⟩,.slice none 0 0,.slice none 0 0,.slice none 0 0]),5,96):=by kernel_rfl
def SQ:World->List Value->Bs->Prop:=fun _ u s=>u=[.string ⟨s.toArray⟩]
def BQ:World->List Value->Bool->Prop:=fun _ u t=>u=[.bool t]
def TyV (W:World) (d:Nat) (v:Value) (t:Ty (d+1)):Prop:=
 ∃(pn pe pp:Option Addr) (cn ce cp:Nat),v=.agg #[.int .i64 t.1,.string ⟨t.2.1.toArray⟩,.slice pn t.2.2.1.length cn,.slice pe t.2.2.2.1.length ce,.slice pp t.2.2.2.2.length cp] /\
  SRow W (.slice pn t.2.2.1.length cn) t.2.2.1/\BRow W (.slice pe t.2.2.2.1.length ce) t.2.2.2.1/\TyRow W d (.slice pp t.2.2.2.2.length cp) t.2.2.2.2
def TQ (d:Nat):World->List Value->Ty (d+1)->Prop:=fun V u t=>TyV V d (.agg u.toArray) t
section
variable {lo:Nat} {M:Nat->Prop} {W V:World} {v:Value}
theorem Row.strs {ns:List Bs} (h:Row 9 1 SQ lo M W v ns) (hV:∀j,lo<=j->j<W.heap.size->V.heap[j]?=W.heap[j]?):SRow V v ns:=by
 obtain⟨p,c,e,_,hp⟩:=h.cells hV;refine⟨p,c,e,fun j t ht=>?_⟩;obtain⟨g,u,rfl,rfl,hc⟩:=hp j t ht;exact⟨g,0,rfl,by have:=hc 0 _ rfl;simpa using this⟩
theorem Row.bools {ns:List Bool} (h:Row 4 1 BQ lo M W v ns) (hV:∀j,lo<=j->j<W.heap.size->V.heap[j]?=W.heap[j]?):BRow V v ns:=by
 obtain⟨p,c,e,_,hp⟩:=h.cells hV;refine⟨p,c,e,fun j t ht=>?_⟩;obtain⟨g,u,rfl,rfl,hc⟩:=hp j t ht;exact⟨g,0,rfl,by have:=hc 0 _ rfl;simpa using this⟩
theorem Row.types {d:Nat} {ps:List (Ty (d+1))} (h:Row 27 5 (TQ d) lo M W v ps) (hV:∀j,lo<=j->j<W.heap.size->V.heap[j]?=W.heap[j]?):TyRow V (d+1) v ps:=by
 obtain⟨p,c,e,_,hp⟩:=h.cells hV;refine⟨p,c,e,fun j t ht=>?_⟩;obtain⟨g,u,rfl,⟨pn,pe,pp,cn,ce,cp,eu,r1,r2,r3⟩,hc⟩:=hp j t ht;have eu':u=[.int .i64 t.1,.string ⟨t.2.1.toArray⟩,.slice pn t.2.2.1.length cn,.slice pe t.2.2.2.1.length ce,.slice pp t.2.2.2.2.length cp]:=by
  injection eu with eu
  exact congrArg Array.toList eu
 subst eu';exact⟨g,0,_,_,_,rfl,hc 0 _ rfl,hc 1 _ rfl,hc 2 _ rfl,hc 3 _ rfl,hc 4 _ rfl,r1,r2,r3⟩
end
theorem Row.type {α:Type} {T:TypeId} {n:Nat} {Q:World->List Value->α->Prop} {lo:Nat} {M:Nat->Prop} {W:World} {v:Value} {xs:List α} (h:Row T n Q lo M W v xs) {k:Nat} (hk:v.ownBlock=some k):∃c,W.heap[k]?=some (.cells c T):=by
 obtain⟨es,_,_,ho,_⟩:=h;rcases ho.2 with⟨rfl,_⟩|⟨g,cap,cur,rfl,_,hg,_⟩
 ·simp[Value.ownBlock]at hk
 ·obtain rfl:g=k:=by simpa[Value.ownBlock]using hk
  exact⟨cur,hg⟩
theorem zde {W:World} {i k:Nat} {c c':Array Value} {T T':TypeId} {fz fz':Nat×Nat} (h:W.heap[i]?=some (.cells c T fz)) (h':W.heap[k]?=some (.cells c' T' fz')) (hT:T≠T'):i≠k:=by
 rintro rfl;rw[h]at h';injection h' with h'
 injection h' with _ h' _
 exact hT h'
theorem RdAt.stay {b:Nat} {T:TypeId} {en:Int} {s:RS} {W W':World} (h:RdAt b T en s W) (hb:Below b W W') (h0:W'.heap[b]?=W.heap[b]?) (hr:∀(k:Nat) (c:Array Value),W.heap[k]?=some (Obj.cells c 114)->W'.heap[k]?=W.heap[k]?):RdAt b T en s W':=by
 obtain⟨v,q,h1,h2,h3⟩:=h;refine⟨v,q,h0.trans h1,h2.keep hb,?_⟩
 cases hs:s.2 with
 | none=>rw[hs]at h3;exact h3
 | some r=>
  rw[hs]at h3;obtain⟨k,e,hn,hk,h⟩:=h3;exact⟨k,e,hn,Nat.lt_of_lt_of_le hk hb.size,(hr k _ h).trans h⟩
theorem Row.grow {α:Type} {T tb TR Ts:TypeId} {n:Nat} {Q:World->List Value->α->Prop} {M:Nat->Prop} {z:Value} {by1 b lo bx i:Nat} {en:Int} {s:RS} {wr w1:World} {zs:Array Value} {v:Value} {xs:List α} {x:α} {u:List Value} (ht:Tryz.prog.underlying Ts=some (.slice T)) (hi0:(Tryz.prog.info? T).map (fun i=>(i.zero,i.size,i.bytes))=some (some z,n,by1)) (hz:z.cells.size=n) (hn0:0<n) (hb1:by1<=1000) (hT:T≠114) (htb:tb≠114)
  (hbl:b<lo) (hlb:lo<=bx) (hx:wr.heap[bx]?=some (.cells zs tb)) (hv:zs[i]?=some v) (h:Row T n Q (bx+1) M wr v xs) (hM:∀k,M k->k<wr.heap.size) (hvM:∀k,v.ownBlock=some k->M k) (hb:Kx b wr w1) (hR:RdAt b TR en s w1)
  (hu:∀V:World,(∀j,wr.heap.size<=j->j<w1.heap.size->V.heap[j]?=w1.heap[j]?)->Q V u x) (h1:∀c∈u,c.oneCell'=true) (hun:u.length=n) (hl:xs.length<=1000000) :
  w1.cell? ⟨bx,i,none⟩=some v/\(w1.alloc (.cells u.toArray T)).cell? ⟨bx,i,none⟩=some v/\∃(g cap:Nat) (W4:World),(Builtin.append_ #[Ts,Ts] Ts #[v,.slice (some ⟨w1.heap.size,0,none⟩) 1 1]).run Tryz.prog (w1.alloc (.cells u.toArray T))=.ok (.slice (some ⟨g,0,none⟩) (xs.length+1) cap) W4 /\
   W4.cell? ⟨bx,i,none⟩=some v/\W4.frozen? ⟨bx,i,none⟩=false /\
   ∀W5,W5=W4.setCell ⟨bx,i,none⟩ (.slice (some ⟨g,0,none⟩) (xs.length+1) cap) ->
   W5.heap[bx]?=some (.cells (zs.setIfInBounds i (.slice (some ⟨g,0,none⟩) (xs.length+1) cap)) tb)/\(v.ownBlock=some g∨w1.heap.size<g)/\g<W5.heap.size /\
   (∀M':Nat->Prop,(∀k,M' k->k<w1.heap.size+1->M k)->Row T n Q (bx+1) M' W5 (.slice (some ⟨g,0,none⟩) (xs.length+1) cap) (xs++[x])) /\
   wr.heap.size<=W5.heap.size/\(∀j,j<wr.heap.size->j≠b->j≠bx->some j≠v.ownBlock->W5.heap[j]?=wr.heap[j]?)/\Kl b lo wr W5/\RdAt b TR en s W5:=by
 have hbx:bx<wr.heap.size:=(Array.getElem?_eq_some_iff.1 hx).1;have hs1:=hb.size;have hx1:w1.heap[bx]?=some (.cells zs tb):=(hb.2 _ hbx (by omega)).trans hx;obtain⟨g,cap,W4,E,hrow,hs4,hk4,hgg,hb4⟩:=h.append (b:=b) ht hi0 hz hn0 hb1 (by omega) hM hvM hb (by omega) (zb2 (.cells u.toArray T)) (J6 w1 _) hu h1 hun hl;have hsz:(w1.alloc (.cells u.toArray T)).heap.size=w1.heap.size+1:=by simp
 have hown:∀k,v.ownBlock=some k->bx+1<=k/\k<wr.heap.size:=h.lt
 rw[hsz]at hs4 hk4 hgg;have hk4':∀j,j<w1.heap.size->some j≠v.ownBlock->W4.heap[j]?=w1.heap[j]?:=fun j hj hne=>(hk4 j (by omega) hne).trans (J9 _ _ hj)
 have hx4:W4.heap[bx]?=some (.cells zs tb):=(hk4' _ (by omega) (fun ej=>by have:=(hown _ ej.symm).1;omega)).trans hx1;refine⟨by rw[Lib.cell_of_heap hx1];exact hv,by rw[Lib.cell_of_heap ((J9 w1 _ (by omega)).trans hx1)];exact hv,g,cap,W4,E,by rw[Lib.cell_of_heap hx4];exact hv,Lib.frozen_of_heap hx4 i,?_⟩;rintro W5 rfl;have hs5:(W4.setCell ⟨bx,i,none⟩ (.slice (some ⟨g,0,none⟩) (xs.length+1) cap)).heap.size=W4.heap.size:=by simp
 have hne5:∀j,j≠bx->(W4.setCell ⟨bx,i,none⟩ (.slice (some ⟨g,0,none⟩) (xs.length+1) cap)).heap[j]?=W4.heap[j]?:=fun j hj=>Below.heap_setCell _ _ _ _ hj
 have hlt:∀k,(Value.slice (some ⟨g,0,none⟩) (xs.length+1) cap).ownBlock=some k->k<W4.heap.size:=fun k hk=>((hrow (fun _=>False) (fun _ h=>h.elim)).lt k hk).2
 refine⟨Ja hx4 _,?_,by rw[hs5];exact hlt g rfl,fun M' hM'=>(hrow M' (fun k h1 h2=>hM' k h1 (by omega))).keep (by omega) (fun k k1 _ _=>hne5 k (by omega)) (fun k hk=>hne5 k (by have:=((hrow M' (fun k h1 h2=>hM' k h1 (by omega))).lt k hk).1;omega)) (fun _ _ h=>h),by omega,fun j h1 h2 h3 h4=>(hne5 j h3).trans ((hk4' j (by omega) h4).trans (hb.2 j h1 h2)),?_,?_⟩
 ·rcases hgg with e|e
  ·exact .inl e
  ·exact .inr (by omega)
 ·refine⟨((hb.1.trans (((zb2 _).mono (by omega)).trans (hb4.mono (by omega)))).setCell (p:=⟨bx,i,none⟩) (by show b<=bx;omega) _),fun j h1 h2=>(hne5 j (by omega)).trans ((hk4' j (by omega) (fun ej=>by have:=(hown _ ej.symm).1;omega)).trans (hb.2 j (by omega) h2))⟩
 ·refine hR.stay ((((zb2 _).mono (by omega)).trans (hb4.mono (by omega))).setCell (p:=⟨bx,i,none⟩) (by show b<=bx;omega) _) ((hne5 b (by omega)).trans (hk4' b hR.lt (fun ej=>by have:=(hown _ ej.symm).1;omega))) fun k c hc=>?_
  have hk:k<w1.heap.size:=(Array.getElem?_eq_some_iff.1 hc).1;refine(hne5 k (zde hc hx1 (Ne.symm htb))).trans (hk4' k hk fun ej=>?_);obtain⟨c',hc'⟩:=h.type ej.symm;exact zde ((hb.2 k (hown k ej.symm).2 (by have:=(hown k ej.symm).1;omega)).trans hc') hc hT rfl
end Go.Proofs.YtdamlfkieecnjaaGreatDoor
namespace Go.Proofs.YtdamlfkieecnjaaGreatDoor
open Go Go.RowKit Lx
def TbAt (K:Int) (d bx:Nat) (W:World) (ns:List Bs) (es:List Bool) (ps:List (Ty (d+1))) (vN vE vP:Value):Prop:=
 W.heap[bx]?=some (.cells #[.int .i64 K,.string ⟨#[]⟩,vN,vE,vP] 27)/\Row 9 1 SQ (bx+1) (Mu [vN,vE,vP]) W vN ns/\Row 4 1 BQ (bx+1) (Mu [vN,vE,vP]) W vE es/\Row 27 5 (TQ d) (bx+1) (Mu [vN,vE,vP]) W vP ps
theorem mu1 {a b c:Value} {k:Nat} (h:a.ownBlock=some k):Mu [a,b,c] k:=⟨a,by simp,h⟩
theorem mu2 {a b c:Value} {k:Nat} (h:b.ownBlock=some k):Mu [a,b,c] k:=⟨b,by simp,h⟩
theorem mu3 {a b c:Value} {k:Nat} (h:c.ownBlock=some k):Mu [a,b,c] k:=⟨c,by simp,h⟩
theorem zas {a b c:Value} {k:Nat} (h:Mu [a,b,c] k):a.ownBlock=some k∨b.ownBlock=some k∨c.ownBlock=some k:=by
 obtain⟨v,hv,e⟩:=h;simp at hv;rcases hv with rfl|rfl|rfl
 ·exact .inl e
 ·exact .inr (.inl e)
 ·exact .inr (.inr e)
section
variable {K:Int} {d bx b:Nat} {W W':World} {ns:List Bs} {es:List Bool} {ps:List (Ty (d+1))} {vN vE vP:Value}
theorem TbAt.lt (h:TbAt K d bx W ns es ps vN vE vP):∀k,Mu [vN,vE,vP] k->k<W.heap.size:=fun k hk=>by
 rcases zas hk with e|e|e
 ·exact(h.2.1.lt k e).2
 ·exact(h.2.2.1.lt k e).2
 ·exact(h.2.2.2.lt k e).2
theorem TbAt.still (h:TbAt K d bx W ns es ps vN vE vP) (hx:Kx b W W') (hb:b<bx):TbAt K d bx W' ns es ps vN vE vP:=by
 obtain⟨h1,h2,h3,h4⟩:=h;have hlt:=(Array.getElem?_eq_some_iff.1 h1).1;have hk:∀k,bx+1<=k->k<W.heap.size->W'.heap[k]?=W.heap[k]?:=fun k k1 k2=>hx.2 k k2 (by omega)
 exact⟨(hx.2 _ hlt (by omega)).trans h1,h2.still hx.size hk,h3.still hx.size hk,h4.still hx.size hk⟩
theorem TbAt.slices (h:TbAt K d bx W ns es ps vN vE vP):∃pn cn pe ce pp cp,vN=.slice pn ns.length cn/\vE=.slice pe es.length ce/\vP=.slice pp ps.length cp:=by
 obtain⟨pn,cn,e1,_⟩:=h.2.1.slice;obtain⟨pe,ce,e2,_⟩:=h.2.2.1.slice;obtain⟨pp,cp,e3,_⟩:=h.2.2.2.slice;exact⟨pn,cn,pe,ce,pp,cp,e1,e2,e3⟩
theorem JE {α β:Type} {T1 T2:TypeId} {n1 n2:Nat} {Q1:World->List Value->α->Prop} {Q2:World->List Value->β->Prop} {v1 v2:Value} {x1:List α} {x2:List β} {M M':Nat->Prop} {W5:World} (hb:b<bx) (h1:Row T1 n1 Q1 (bx+1) M W v1 x1) (h2:Row T2 n2 Q2 (bx+1) M W v2 x2) (hT:T1≠T2) (hv:∀k,v1.ownBlock=some k->M k) (hs:W.heap.size<=W5.heap.size) (hk:∀j,j<W.heap.size->j≠b->j≠bx->some j≠v1.ownBlock->W5.heap[j]?=W.heap[j]?) (hM:∀k,k<W.heap.size->M' k->M k):Row T2 n2 Q2 (bx+1) M' W5 v2 x2:=by
 refine h2.keep hs (fun k k1 k2 k3=>hk k k2 (by omega) (by omega) (fun e=>k3 (hv k e.symm))) (fun g hg=>?_) hM;have hl:=h2.lt g hg;refine hk g hl.2 (by omega) (by omega) fun e=>?_
 obtain⟨c1,e1⟩:=h1.type e.symm;obtain⟨c2,e2⟩:=h2.type hg;exact zde e1 e2 hT rfl
end
def Grown (Ts T:TypeId) (bx i:Nat) (v:Value) (u:List Value) (m:Nat) (w1:World) (P:Value->World->Prop):Prop:=
 w1.cell? ⟨bx,i,none⟩=some v/\(w1.alloc (.cells u.toArray T)).cell? ⟨bx,i,none⟩=some v/\∃(g cap:Nat) (W4:World),(Builtin.append_ #[Ts,Ts] Ts #[v,.slice (some ⟨w1.heap.size,0,none⟩) 1 1]).run Tryz.prog (w1.alloc (.cells u.toArray T))=.ok (.slice (some ⟨g,0,none⟩) m cap) W4 /\
   W4.cell? ⟨bx,i,none⟩=some v/\W4.frozen? ⟨bx,i,none⟩=false/\Hid (P (.slice (some ⟨g,0,none⟩) m cap) (W4.setCell ⟨bx,i,none⟩ (.slice (some ⟨g,0,none⟩) m cap)))
section
variable {K en:Int} {d bx b lo:Nat} {TR:TypeId} {s:RS} {wr w1:World} {ns:List Bs} {es:List Bool} {ps:List (Ty (d+1))} {vN vE vP:Value}
theorem TbAt.name {n:Bs} (h:TbAt K d bx wr ns es ps vN vE vP) (hbl:b<lo) (hlb:lo<=bx) (hx:Kx b wr w1) (hR:RdAt b TR en s w1) (hl:ns.length<=1000000) :
  Grown 22 9 bx 2 vN [.string ⟨n.toArray⟩] (ns.length+1) w1 fun v' W5=>TbAt K d bx W5 (ns++[n]) es ps v' vE vP/\Kl b lo wr W5/\RdAt b TR en s W5:=by
 obtain⟨e1,e2,g,cap,W4,E,e3,e4,HW⟩:=h.2.1.grow (v:=vN) (b:=b) (lo:=lo) (x:=n) (i:=2) (u:=[.string ⟨n.toArray⟩]) Tryz.underlying22 inf_str rfl (by decide) (by decide) (by decide) (by decide) hbl hlb h.1 rfl h.lt (fun k=>mu1) hx hR (fun V _=>rfl) (by simp[Value.oneCell']) rfl hl;refine⟨e1,e2,g,cap,W4,E,e3,e4,?_⟩;obtain⟨f1,f2,f3,f4,f5,f6,f7,f8⟩:=HW _ rfl;have hM1:∀k,Mu [.slice (some ⟨g,0,none⟩) (ns.length+1) cap,vE,vP] k->k<w1.heap.size+1->Mu [vN,vE,vP] k:=fun k hm hk=>by
  rcases zas hm with e|e|e
  ·obtain rfl:g=k:=by simpa[Value.ownBlock]using e
   rcases f2 with f|f
   ·exact mu1 f
   ·omega
  ·exact mu2 e
  ·exact mu3 e
 have hM:∀k,k<wr.heap.size->Mu [.slice (some ⟨g,0,none⟩) (ns.length+1) cap,vE,vP] k->Mu [vN,vE,vP] k:=fun k hk hm=>hM1 k hm (by have:=hx.size;omega)
 exact⟨⟨f1,f4 _ hM1,JE (by omega) h.2.1 h.2.2.1 (by decide) (fun k=>mu1) f5 f6 hM,JE (by omega) h.2.1 h.2.2.2 (by decide) (fun k=>mu1) f5 f6 hM⟩,f7,f8⟩
theorem TbAt.embed {e:Bool} (h:TbAt K d bx wr ns es ps vN vE vP) (hbl:b<lo) (hlb:lo<=bx) (hx:Kx b wr w1) (hR:RdAt b TR en s w1) (hl:es.length<=1000000) :
  Grown 24 4 bx 3 vE [.bool e] (es.length+1) w1 fun v' W5=>TbAt K d bx W5 ns (es++[e]) ps vN v' vP/\Kl b lo wr W5/\RdAt b TR en s W5:=by
 obtain⟨e1,e2,g,cap,W4,E,e3,e4,HW⟩:=h.2.2.1.grow (v:=vE) (b:=b) (lo:=lo) (x:=e) (i:=3) (u:=[.bool e]) Tryz.underlying24 inf_bool rfl (by decide) (by decide) (by decide) (by decide) hbl hlb h.1 rfl h.lt (fun k=>mu2) hx hR (fun V _=>rfl) (by simp[Value.oneCell']) rfl hl;refine⟨e1,e2,g,cap,W4,E,e3,e4,?_⟩;obtain⟨f1,f2,f3,f4,f5,f6,f7,f8⟩:=HW _ rfl;have hM1:∀k,Mu [vN,.slice (some ⟨g,0,none⟩) (es.length+1) cap,vP] k->k<w1.heap.size+1->Mu [vN,vE,vP] k:=fun k hm hk=>by
  rcases zas hm with e|e|e
  ·exact mu1 e
  ·obtain rfl:g=k:=by simpa[Value.ownBlock]using e
   rcases f2 with f|f
   ·exact mu2 f
   ·omega
  ·exact mu3 e
 have hM:∀k,k<wr.heap.size->Mu [vN,.slice (some ⟨g,0,none⟩) (es.length+1) cap,vP] k->Mu [vN,vE,vP] k:=fun k hk hm=>hM1 k hm (by have:=hx.size;omega)
 exact⟨⟨f1,JE (by omega) h.2.2.1 h.2.1 (by decide) (fun k=>mu2) f5 f6 hM,f4 _ hM1,JE (by omega) h.2.2.1 h.2.2.2 (by decide) (fun k=>mu2) f5 f6 hM⟩,f7,f8⟩
theorem TbAt.part {t:Ty (d+1)} {u:List Value} (h:TbAt K d bx wr ns es ps vN vE vP) (hbl:b<lo) (hlb:lo<=bx) (hx:Kx b wr w1) (hR:RdAt b TR en s w1) (hu:∀V:World,(∀j,wr.heap.size<=j->j<w1.heap.size->V.heap[j]?=w1.heap[j]?)->TyV V d (.agg u.toArray) t) (h1:∀c∈u,c.oneCell'=true) (hun:u.length=5) (hl:ps.length<=1000000) :
  Grown 25 27 bx 4 vP u (ps.length+1) w1 fun v' W5=>TbAt K d bx W5 ns es (ps++[t]) vN vE v'/\Kl b lo wr W5/\RdAt b TR en s W5:=by
 obtain⟨e1,e2,g,cap,W4,E,e3,e4,HW⟩:=h.2.2.2.grow (v:=vP) (b:=b) (lo:=lo) (x:=t) (i:=4) (u:=u) Tryz.underlying25 inf_ty rfl (by decide) (by decide) (by decide) (by decide) hbl hlb h.1 rfl h.lt (fun k=>mu3) hx hR hu h1 hun hl;refine⟨e1,e2,g,cap,W4,E,e3,e4,?_⟩;obtain⟨f1,f2,f3,f4,f5,f6,f7,f8⟩:=HW _ rfl;have hM1:∀k,Mu [vN,vE,.slice (some ⟨g,0,none⟩) (ps.length+1) cap] k->k<w1.heap.size+1->Mu [vN,vE,vP] k:=fun k hm hk=>by
  rcases zas hm with e|e|e
  ·exact mu1 e
  ·exact mu2 e
  ·obtain rfl:g=k:=by simpa[Value.ownBlock]using e
   rcases f2 with f|f
   ·exact mu3 f
   ·omega
 have hM:∀k,k<wr.heap.size->Mu [vN,vE,.slice (some ⟨g,0,none⟩) (ps.length+1) cap] k->Mu [vN,vE,vP] k:=fun k hk hm=>hM1 k hm (by have:=hx.size;omega)
 exact⟨⟨f1,JE (by omega) h.2.2.2 h.2.1 (by decide) (fun k=>mu3) f5 f6 hM,JE (by omega) h.2.2.2 h.2.2.1 (by decide) (fun k=>mu3) f5 f6 hM,f4 _ hM1⟩,f7,f8⟩
end
end Go.Proofs.YtdamlfkieecnjaaGreatDoor
namespace Go.Proofs.YtdamlfkieecnjaaGreatDoor
open Go Go.RowKit Lx
abbrev Jc (K:Int) (S:ByteArray) (pn pe pp:Option Addr) (nn cn ne ce np cp:Nat):Value:=.agg #[.int .i64 K,.string S,.slice pn nn cn,.slice pe ne ce,.slice pp np cp]
def za1 (b:Nat) (T:TypeId) (en:Int) (F:FuncId) (args:Array Value) (d:Nat) (p:RS->Ty (d+1)×RS):Prop:=
 ∀(s:RS) (w:World),RdAt b T en s w->Calls Tryz.prog F args w fun e w'=>∃(K:Int) (S:ByteArray) (pn pe pp:Option Addr) (nn cn ne ce np cp:Nat),e=.returned (Jc K S pn pe pp nn cn ne ce np cp)/\RdAt b T en (p s).2 w'/\Kx b w w'/\∀V:World,(∀j,w.heap.size<=j->j<w'.heap.size->V.heap[j]?=w'.heap[j]?)->TyV V d (Jc K S pn pe pp nn cn ne ce np cp) (p s).1
theorem RdAt.drew {b:Nat} {T:TypeId} {en:Int} {s:RS} {W:World} (h:RdAt b T en s W):RdAt b T en s W.drew:=h.below (Below.refl _ _).drew
theorem Kl.undrew {b lo:Nat} {W W':World} (h:Kl b lo W.drew W'):Kl b lo W W':=((Kl.refl b lo W).drew).trans h
theorem closeB_pos {en:Int} {s:RS} {m:Bs} (h:zab en s m=false):0<(Ju en s m).1.length:=by
 simp only[zab,Bool.or_eq_false_iff]at h
 cases hs:(Ju en s m).1 with
 | nil=>
  have:(zb4 (zb5 en s) m).1=[]:=hs;rw[this]at h;simp at h
 | cons=>simp
section
variable {K en:Int} {d bx b lo:Nat} {TR:TypeId} {s:RS} {wr:World} {ns:List Bs} {es:List Bool} {ps:List (Ty (d+1))} {vN vE vP:Value}
theorem tb_embed (h:TbAt K d bx wr ns es ps vN vE vP) (hbl:b<lo) (hlb:lo<=bx) (hR:RdAt b TR en s wr) (hl:es.length<=1000000) (m:Bs):Calls Tryz.prog 151 #[rp b,.string ⟨m.toArray⟩] wr.drew fun e w1=>e=.returned (.bool (JB s m)) /\
  Grown 24 4 bx 3 vE [.bool (JB s m)] (es.length+1) w1 fun v' W5=>TbAt K d bx W5 ns (es++[JB s m]) ps vN v' vP/\Kl b lo wr W5/\RdAt b TR en (zb4 s m) W5:=
 (zbe b TR en s m _ hR.drew).mono fun _ _ ⟨h1,h2,h3⟩=>⟨h1,h.embed hbl hlb h3.undrew h2 hl⟩
theorem tb_name (h:TbAt K d bx wr ns es ps vN vE vP) (hbl:b<lo) (hlb:lo<=bx) (hR:RdAt b TR en s wr) (hl:ns.length<=1000000):Calls Tryz.prog 152 #[rp b,vN] wr.drew fun e w1=>e=.returned (.string ⟨(JF s 1).2.2.1.toArray⟩) /\
  Grown 22 9 bx 2 vN [.string ⟨(JF s 1).2.2.1.toArray⟩] (ns.length+1) w1 fun v' W5=>TbAt K d bx W5 (ns++[(JF s 1).2.2.1]) es ps v' vE vP/\Kl b lo wr W5/\RdAt b TR en (newS en s ns) W5:=
 (newName_any b TR en s vN ns hl _ hR.drew fun V hV=>(h.still hV.undrew (by omega)).2.1.strs fun _ _ _=>rfl).mono fun _ _ ⟨h1,h2,h3⟩=>⟨h1,h.name hbl hlb h3.undrew h2 hl⟩
theorem one5 (K:Int) (S:ByteArray) (pn pe pp:Option Addr) (nn cn ne ce np cp:Nat):∀c∈[Value.int .i64 K,.string S,.slice pn nn cn,.slice pe ne ce,.slice pp np cp],c.oneCell'=true:=fun c hc=>by
 simp at hc;rcases hc with rfl|rfl|rfl|rfl|rfl <;> rfl
theorem tb_part {F:FuncId} {args:Array Value} {p:RS->Ty (d+1)×RS} (hP:za1 b TR en F args d p) (h:TbAt K d bx wr ns es ps vN vE vP) (hbl:b<lo) (hlb:lo<=bx) (hR:RdAt b TR en s wr) (hl:ps.length<=1000000):Calls Tryz.prog F args wr.drew fun e w1=>∃(K2:Int) (S:ByteArray) (pn pe pp:Option Addr) (nn cn ne ce np cp:Nat),e=.returned (Jc K2 S pn pe pp nn cn ne ce np cp) /\
  Grown 25 27 bx 4 vP [.int .i64 K2,.string S,.slice pn nn cn,.slice pe ne ce,.slice pp np cp] (ps.length+1) w1 fun v' W5=>TbAt K d bx W5 ns es (ps++[(p s).1]) vN vE v'/\Kl b lo wr W5/\RdAt b TR en (p s).2 W5:=
 (hP s _ hR.drew).mono fun _ _ ⟨K2,S,pn,pe,pp,nn,cn,ne,ce,np,cp,h1,h2,h3,h4⟩=>⟨K2,S,pn,pe,pp,nn,cn,ne,ce,np,cp,h1,h.part hbl hlb h3.undrew h2 h4 (one5 _ _ _ _ _ _ _ _ _ _ _) rfl hl⟩
end
theorem accept_enter (args:Array Value) (w:World):Sem.run Tryz.prog (callFunc 151 args) w=.ok (.enter 151 args) w:=by kernel_rfl
theorem zdh (args:Array Value) (w:World):Sem.run Tryz.prog (callFunc 152 args) w=.ok (.enter 152 args) w:=by kernel_rfl
theorem zci (args:Array Value) (w:World):Sem.run Tryz.prog (callFunc 43 args) w=.ok (.enter 43 args) w:=by kernel_rfl
abbrev tyO:Obj:=.cells #[.int .i64 0,.string ⟨#[]⟩,.slice none 0 0,.slice none 0 0,.slice none 0 0] 27
def TbS (K:Int) (b:Nat) (T:TypeId) (en:Int) (d:Nat) (w:World) (s:RS) (W:World) (ns:List Bs) (es:List Bool) (ps:List (Ty (d+1))) (vN vE vP:Value):Prop:=
 TbAt K d (w.heap.size+1) W ns es ps vN vE vP/\W.heap[w.heap.size]?=some tyO/\RdAt b T en s W/\Kl b w.heap.size w W
section
variable {K en:Int} {d b:Nat} {T:TypeId} {s s':RS} {w W W5:World} {ns ns':List Bs} {es es':List Bool} {ps ps':List (Ty (d+1))} {vN vE vP vN' vE' vP':Value}
theorem TbS.on (h:TbS K b T en d w s W ns es ps vN vE vP) (hb:b<w.heap.size) (h5:TbAt K d (w.heap.size+1) W5 ns' es' ps' vN' vE' vP'/\Kl b (w.heap.size+1) W W5/\RdAt b T en s' W5):TbS K b T en d w s' W5 ns' es' ps' vN' vE' vP':=
 ⟨h5.1,(h5.2.1.2 _ (by omega) (by omega)).trans h.2.1,h5.2.2,h.2.2.2.trans (h5.2.1.mono (by omega))⟩
theorem TbS.call (h:TbS K b T en d w s W ns es ps vN vE vP) (hb:b<w.heap.size) (hx:Kx b W W5) (hR:RdAt b T en s' W5):TbS K b T en d w s' W5 ns es ps vN vE vP:=
 ⟨h.1.still hx (by omega),(hx.2 _ (Array.getElem?_eq_some_iff.1 h.2.1).1 (by omega)).trans h.2.1,hR,h.2.2.2.trans (hx.mono h.2.2.2.size)⟩
theorem TbS.slices (h:TbS K b T en d w s W ns es ps vN vE vP):∃pn cn pe ce pp cp,vN=.slice pn ns.length cn/\vE=.slice pe es.length ce/\vP=.slice pp ps.length cp:=h.1.slices
theorem TbS.first (hb:b<w.heap.size) (h:RdAt b T en s w):TbS K b T en d w s ((w.alloc tyO).alloc (.cells #[.int .i64 K,.string ⟨#[]⟩,.slice none 0 0,.slice none 0 0,.slice none 0 0] 27)) [] [] [] (.slice none 0 0) (.slice none 0 0) (.slice none 0 0):=
 ⟨⟨zar _ _ (by simp),Row.nil _ _ _,Row.nil _ _ _,Row.nil _ _ _⟩,(J9 _ _ (by simp)).trans (J6 w tyO),(h.alloc _).alloc _,((Kl.refl _ _ _).alloc (Nat.le_of_lt hb) (Nat.le_refl _) _).alloc (Nat.le_of_lt hb) (by simp) _⟩
theorem J8 {W:World} {k:Nat} {a c e f g:Value} (h:W.heap[k]?=some (.cells #[a,c,e,f,g] 27)):(W.cell? ⟨k,0,none⟩=some a/\W.cell? ⟨k,1,none⟩=some c/\W.cell? ⟨k,2,none⟩=some e/\W.cell? ⟨k,3,none⟩=some f/\W.cell? ⟨k,4,none⟩=some g)/\∀i,W.frozen? ⟨k,i,none⟩=false:=
 ⟨⟨(Lib.cell_of_heap h 0).trans rfl,(Lib.cell_of_heap h 1).trans rfl,(Lib.cell_of_heap h 2).trans rfl,(Lib.cell_of_heap h 3).trans rfl,(Lib.cell_of_heap h 4).trans rfl⟩,fun i=>Lib.frozen_of_heap h i⟩
theorem TbS.done (h:TbS K b T en d w s W ns es ps vN vE vP) (hb:b<w.heap.size) (W6:World) (e:W6=((((W.setCell ⟨w.heap.size,0,none⟩ (.int .i64 K)).setCell ⟨w.heap.size,1,none⟩ (.string ⟨#[]⟩)).setCell ⟨w.heap.size,2,none⟩ vN).setCell ⟨w.heap.size,3,none⟩ vE).setCell ⟨w.heap.size,4,none⟩ vP) :
  W6.heap[w.heap.size]?=some (.cells #[.int .i64 K,.string ⟨#[]⟩,vN,vE,vP] 27)/\RdAt b T en s W6/\Kx b w W6/\∀V:World,(∀j,w.heap.size<=j->j<W6.heap.size->V.heap[j]?=W6.heap[j]?)->TyV V (d+1) (.agg #[.int .i64 K,.string ⟨#[]⟩,vN,vE,vP]) (zaf (d+1) K [] ns es ps):=by
 obtain⟨h1,h2,h3,h4⟩:=h;have k1:=Ja (i:=0) h2 (.int .i64 K);have k2:=Ja (i:=1) k1 (.string ⟨#[]⟩);have k3:=Ja (i:=2) k2 vN;have k4:=Ja (i:=3) k3 vE;have k5:=Ja (i:=4) k4 vP;have r1:=(((((h3.put h2 (by decide) hb 0 (.int .i64 K)).put k1 (by decide) hb 1 (.string ⟨#[]⟩)).put k2 (by decide) hb 2 vN).put k3 (by decide) hb 3 vE).put k4 (by decide) hb 4 vP)
 have hbl:=Nat.le_of_lt hb;have r2:=((((h4.setHigh (i:=0) hbl (Nat.le_refl _) (.int .i64 K)).setHigh (i:=1) hbl (Nat.le_refl _) (.string ⟨#[]⟩)).setHigh (i:=2) hbl (Nat.le_refl _) vN).setHigh (i:=3) hbl (Nat.le_refl _) vE).setHigh (i:=4) hbl (Nat.le_refl _) vP;have hs:W6.heap.size=W.heap.size:=by rw[e];simp
 have hk:∀j,j≠w.heap.size->W6.heap[j]?=W.heap[j]?:=fun j hj=>by rw[e,Below.heap_setCell _ _ _ _ hj,Below.heap_setCell _ _ _ _ hj,Below.heap_setCell _ _ _ _ hj,Below.heap_setCell _ _ _ _ hj,Below.heap_setCell _ _ _ _ hj]
 rw[<-e]at k5 r1 r2;refine⟨k5,r1,r2,fun V hV=>?_⟩;have hV2:∀j,w.heap.size+1+1<=j->j<W.heap.size->V.heap[j]?=W.heap[j]?:=fun j j1 j2=>(hV j (by omega) (by omega)).trans (hk j (by omega))
 have q1:=h1.2.1.strs hV2;have q2:=h1.2.2.1.bools hV2;have q3:=h1.2.2.2.types hV2;obtain⟨pn,cn,pe,ce,pp,cp,rfl,rfl,rfl⟩:=h1.slices;exact⟨pn,pe,pp,cn,ce,cp,rfl,q1,q2,q3⟩
end
end Go.Proofs.YtdamlfkieecnjaaGreatDoor
namespace Go.Proofs.YtdamlfkieecnjaaGreatDoor
open Go Go.RowKit Lx
theorem wrap_small {n:Int} (h0:0<=n) (h1:n<=100):IntKind.i64.wrap (n+1)=n+1:=by
 rw[IntKind.wrap_i64];omega
theorem readRecord_any (b:Nat) (T:TypeId) (en:Int) (d:Nat) (p:RS->Ty (d+1)×RS) (hp:Less p) (depth:Int) (h0:0<=depth) (h1:depth<=100) (hP:za1 b T en 43 #[rp b,.int .i64 (depth+1)] d p) :
  za1 b T en 89 #[rp b,.int .i64 depth] (d+1) fun s=>(zaf (d+1) 6 [] (zb7 en p (s.1.length+1) [] [] [] s).1.2.1 (zb7 en p (s.1.length+1) [] [] [] s).1.1 (zb7 en p (s.1.length+1) [] [] [] s).1.2.2,(zb7 en p (s.1.length+1) [] [] [] s).2):=fun s w h=>by
 have hl:=h.lt;have hn:s.1.length<=100000:=by obtain⟨_,_,_,h,_⟩:=h;exact h.1
 have HP:=J4 hP;have HL:=J4 hp;have HW0:=J4 (TbS.first (K:=6) (d:=d) hl h);clear hP hp h;go_enter Tryz.func89,Tryz.ntmps89;go_wp2
 go_loopg [] s.1.length (fun gk wr=>∃(f m:Nat) (es:List Bool) (ns:List Bs) (ps:List (Ty (d+1))) (s2:RS) (vN vE vP:Value),Hid (s2.1.length=gk/\gk<f/\m+gk<=100000/\es.length=m/\ns.length=m/\ps.length=m)/\Hid (zb7 en p (s.1.length+1) [] [] [] s=zb7 en p f es ns ps s2)/\Hid (TbS 6 b T en d w s2 wr ns es ps vN vE vP))
 case atStart=>exact⟨_,0,[],[],[],s,_,_,_,⟨rfl,Nat.lt_succ_self _,by omega,rfl,rfl,rfl⟩,rfl,J0 HW0⟩
 case round=>
  clear HW0 hn;obtain⟨f,m,es,ns,ps,s2,vN,vE,vP,HF,HE,HW⟩:=hrel
  cases f with
  | zero=>exact absurd (J0 HF).2.1 (by omega)
  | succ f=>
  have CS:=J4 (closed_any b T en s2 [125] wr (J0 HW).2.2.1);have HC:=J4 (closeB_pos (en:=en) (s:=s2) (m:=[125]));rw[show zb7 en p (f+1) es ns ps s2=if zab en s2 [125]=true then((es,ns,ps),Ju en s2 [125])else zb7 en p f (es++[JB (Ju en s2 [125]) [101,109,98,101,100]]) (ns++[(JF (zb4 (Ju en s2 [125]) [101,109,98,101,100]) 1).2.2.1]) (ps++[(p (newS en (zb4 (Ju en s2 [125]) [101,109,98,101,100]) ns)).1]) (Je en (p (newS en (zb4 (Ju en s2 [125]) [101,109,98,101,100]) ns)).2 [59])from rfl]at HE;have HZ:=J4 (zau en s2 [125]);obtain⟨x,hx⟩:∃x,x=zab en s2 [125]:=⟨_,rfl⟩
  obtain⟨s3,hs3⟩:∃x,x=Ju en s2 [125]:=⟨_,rfl⟩
  rw[<-hx,<-hs3]at CS HE HC;rw[<-hs3]at HZ;clear hx hs3;obtain⟨pn,cn,pe,ce,pp,cp,eN,eE,eP⟩:=(J0 HW).slices;subst eN eE eP
  cases x
  ·go_upto_region 3 with(go_at_call 150;refine(J0 CS).mono ?_;clear CS;rintro e w3 ⟨rfl,r1,r2⟩;have HX:=J4 ((J0 HW).call hl r2 r1);clear r1 r2 HW)
   go_upto_region 3 with fail
   go_cut []from 7 to 44 (fun wx=>∃(vv:Value) (Wy:World),Wy=wx/\Hid (TbS 6 b T en d w (zb4 s3 [101,109,98,101,100]) Wy ns (es++[JB s3 [101,109,98,101,100]]) ps (.slice pn ns.length cn) vv (.slice pp ps.length cp)))
   case first=>
    have c3:=(J8 (J0 HX).1.1).1.2.2.2.1;have CL:=J4 (tb_embed (J0 HX).1 (lo:=w.heap.size+1) (by omega) (Nat.le_refl _) (J0 HX).2.2.1 (by have:=J0 HF;omega) [101,109,98,101,100])
    go_region_law (first
     | (refine JJ (us:=#[rp b,.string ⟨#[101,109,98,101,100]⟩]) rfl 151 _ _ rfl (by simp[Act.eval,Act.put]) accept_enter ?_;refine(J0 CL).mono ?_;rintro e w4 ⟨rfl,e1,e2,g,cap,W4,E,e3,e4,HY⟩;refine⟨_,rfl,?_⟩)
     | refine zat rfl (.tmp 13) (.tmp 18) 24 rfl (by simp[Act.eval]) (by simp[Act.eval]) E ?_)
    all_goals
     go_wp2_with fail;go_meet
     case rel=>exact⟨_,_,rfl,(J0 HX).on hl (J0 HY)⟩
   case rest=>
    obtain⟨vE,Wa,rfl,HA⟩:=hcut;obtain⟨-,-,pe2,ce2,-,-,-,eE,-⟩:=(J0 HA).slices;subst eE;clear HX;go_upto_region 4 with fail
    go_cut []from 7 to 44 (fun wx=>∃(vv:Value) (Wy:World),Wy=wx/\Hid (TbS 6 b T en d w (newS en (zb4 s3 [101,109,98,101,100]) ns) Wy (ns++[(JF (zb4 s3 [101,109,98,101,100]) 1).2.2.1]) (es++[JB s3 [101,109,98,101,100]]) ps vv (.slice pe2 (es++[JB s3 [101,109,98,101,100]]).length ce2) (.slice pp ps.length cp)))
    case first=>
     have c2:=(J8 (J0 HA).1.1).1.2.2.1;have CL:=J4 (tb_name (J0 HA).1 (lo:=w.heap.size+1) (by omega) (Nat.le_refl _) (J0 HA).2.2.1 (by have:=J0 HF;omega))
     go_region_law (first
      | (refine JJ (us:=#[rp b,.slice pn ns.length cn]) rfl 152 _ _ rfl (by simp[Act.eval]) zdh ?_;refine(J0 CL).mono ?_;rintro e w4 ⟨rfl,e1,e2,g,cap,W4,E,e3,e4,HY⟩;refine⟨_,rfl,?_⟩)
      | refine zat rfl (.tmp 22) (.tmp 29) 22 rfl (by simp[Act.eval]) (by simp[Act.eval]) E ?_)
     all_goals
      go_wp2_with fail;go_meet
      case rel=>exact⟨_,_,rfl,(J0 HA).on hl (J0 HY)⟩
    case rest=>
     obtain⟨vN,Wb,rfl,HB⟩:=hcut;clear HA;obtain⟨s5,hs5⟩:∃x,x=newS en (zb4 s3 [101,109,98,101,100]) ns:=⟨_,rfl⟩
     rw[<-hs5]at HB HE;have HQ:Hid (s5.1.length<=s3.1.length-1):=by rw[hs5];exact Nat.le_trans (zc6 _ _ _) (by have:=zdk s3 [101,109,98,101,100];omega)
     obtain⟨pn2,cn2,-,-,-,-,eN,-,-⟩:=(J0 HB).slices;subst eN;clear hs5;go_upto_region 5 with fail
     go_cut []from 7 to 44 (fun wx=>∃(vv:Value) (Wy:World),Wy=wx/\Hid (TbS 6 b T en d w (p s5).2 Wy (ns++[(JF (zb4 s3 [101,109,98,101,100]) 1).2.2.1]) (es++[JB s3 [101,109,98,101,100]]) (ps++[(p s5).1]) (.slice pn2 (ns++[(JF (zb4 s3 [101,109,98,101,100]) 1).2.2.1]).length cn2) (.slice pe2 (es++[JB s3 [101,109,98,101,100]]).length ce2) vv))
     case first=>
      have c4:=(J8 (J0 HB).1.1).1.2.2.2.2;have CL:=J4 (tb_part (J0 HP) (J0 HB).1 (lo:=w.heap.size+1) (by omega) (Nat.le_refl _) (J0 HB).2.2.1 (by have:=J0 HF;omega))
      go_region_law (first
       | (refine JJ (us:=#[rp b,.int .i64 (depth+1)]) rfl 43 _ _ rfl (by simp[Act.eval,Act.put,wrap_small h0 h1]) zci ?_;refine(J0 CL).mono ?_;rintro e w4 ⟨K2,S2,qn,qe,qp,m1,m2,m3,m4,m5,m6,rfl,e1,e2,g,cap,W4,E,e3,e4,HY⟩;refine⟨_,rfl,?_⟩)
       | refine zat rfl (.tmp 33) (.tmp 38) 25 rfl (by simp[Act.eval]) (by simp[Act.eval]) E ?_)
      all_goals
       go_wp2_with fail;go_meet
       case rel=>exact⟨_,_,rfl,(J0 HB).on hl (J0 HY)⟩
     case rest=>
      obtain⟨vP,Wc,rfl,HD⟩:=hcut;clear HB;have ND:=J4 (ze0 b T en (p s5).2 [59] Wc (J0 HD).2.2.1);have hm:(Je en (p s5).2 [59]).1.length<gk:=by
       have a1:=JK en (p s5).2 [59];have a2:=J0 HL s5;have a3:=J0 HQ;have a4:=J0 HC trivial;have a5:=J0 HZ;have a6:=J0 HF;omega
      have hf:=J0 HF;go_wp2_with (go_at_call 153;refine(J0 ND).mono ?_;clear ND;rintro e w6 ⟨rfl,r1,r2⟩;have HG:=J4 ((J0 HD).call hl r2 r1);clear r1 r2);go_roundg (Je en (p s5).2 [59]).1.length
      case measure=>exact hm
      case rel=>exact⟨f,m+1,_,_,_,_,_,_,_,⟨rfl,by omega,by omega,by simp;omega,by simp;omega,by simp;omega⟩,J0 HE,J0 HG⟩
  ·have e0:zb7 en p (s.1.length+1) [] [] [] s=((es,ns,ps),s3):=J0 HE;go_upto_region 7 with(go_at_call 150;refine(J0 CS).mono ?_;clear CS;rintro e w3 ⟨rfl,r1,r2⟩;have HX:=J4 ((J0 HW).call hl r2 r1);clear r1 r2 HW)
   obtain⟨⟨x0,x1,x2,x3,x4⟩,-⟩:=J8 (J0 HX).1.1;obtain⟨⟨z0,z1,z2,z3,z4⟩,zf⟩:=J8 (J0 HX).2.1;go_wp2;obtain⟨Wf,hWf⟩:∃Wf:World,Wf=((((w3.setCell ⟨w.heap.size,0,none⟩ (.int .i64 6)).setCell ⟨w.heap.size,1,none⟩ (.string ⟨#[]⟩)).setCell ⟨w.heap.size,2,none⟩ (.slice pn ns.length cn)).setCell ⟨w.heap.size,3,none⟩ (.slice pe es.length ce)).setCell ⟨w.heap.size,4,none⟩ (.slice pp ps.length cp):=⟨_,rfl⟩
   rw[<-hWf];obtain⟨d1,d2,d3,d4⟩:=(J0 HX).done hl Wf hWf;obtain⟨⟨y0,y1,y2,y3,y4⟩,-⟩:=J8 d1;exact bodyPost_ret (v:=Jc 6 ⟨#[]⟩ pn pe pp ns.length cn es.length ce ps.length cp) (by simp[results,Tryz.results89,go_sem,y0,y1,y2,y3,y4]) rfl ⟨_,_,_,_,_,_,_,_,_,_,_,rfl,by rw[e0];exact d2,d3,fun V hV=>by rw[e0];exact d4 V hV⟩
end Go.Proofs.YtdamlfkieecnjaaGreatDoor
namespace Go.Proofs.YtdamlfkieecnjaaGreatDoor
open Go Go.RowKit Lx
theorem zcj (args:Array Value) (w:World):Sem.run Tryz.prog (callFunc 90 args) w=.ok (.enter 90 args) w:=by kernel_rfl
theorem zds (b:Nat) (T:TypeId) (en:Int) (d:Nat) (p:RS->Ty (d+1)×RS) (hp:Less p) (depth:Int) (h0:0<=depth) (h1:depth<=100) (hP:za1 b T en 90 #[rp b,.int .i64 (depth+1)] d p) :
  za1 b T en 91 #[rp b,.int .i64 depth] (d+1) fun s=>(zaf (d+1) 8 [] (zbs en p ((Je en s [123]).1.length+1) [] [] (Je en s [123])).1.1 [] (zbs en p ((Je en s [123]).1.length+1) [] [] (Je en s [123])).1.2,(zbs en p ((Je en s [123]).1.length+1) [] [] (Je en s [123])).2):=fun s w h=>by
 have hl:=h.lt;have hn:s.1.length<=100000:=by obtain⟨_,_,_,h,_⟩:=h;exact h.1
 have HP:=J4 hP;have HL:=J4 hp;have HW0:=J4 (TbS.first (K:=8) (d:=d) hl h);have ND:=J4 (ze0 b T en s [123] _ (J0 HW0).2.2.1);have hn0:=JK en s [123];obtain⟨s0,hs0⟩:∃x,x=Je en s [123]:=⟨_,rfl⟩
 dsimp only;rw[<-hs0]at ND hn0 ⊢;clear hP hp h hs0;go_enter Tryz.func91,Tryz.ntmps91;go_wp2_with (go_at_call 153;refine(J0 ND).mono ?_;clear ND;rintro e w1 ⟨rfl,r1,r2⟩;have HW1:=J4 ((J0 HW0).call hl r2 r1);clear r1 r2)
 go_loopg [] s0.1.length (fun gk wr=>∃(f m:Nat) (ns:List Bs) (ps:List (Ty (d+1))) (s2:RS) (vN vE vP:Value),Hid (s2.1.length=gk/\gk<f/\m+gk<=100000/\ns.length=m/\ps.length=m)/\Hid (zbs en p (s0.1.length+1) [] [] s0=zbs en p f ns ps s2)/\Hid (TbS 8 b T en d w s2 wr ns [] ps vN vE vP))
 case atStart=>exact⟨_,0,[],[],s0,_,_,_,⟨rfl,Nat.lt_succ_self _,by omega,rfl,rfl⟩,rfl,J0 HW1⟩
 case round=>
  clear HW0 HW1 hn hn0;obtain⟨f,m,ns,ps,s2,vN,vE,vP,HF,HE,HW⟩:=hrel
  cases f with
  | zero=>exact absurd (J0 HF).2.1 (by omega)
  | succ f=>
  have CS:=J4 (closed_any b T en s2 [125] wr (J0 HW).2.2.1);have HC:=J4 (closeB_pos (en:=en) (s:=s2) (m:=[125]));rw[show zbs en p (f+1) ns ps s2=if zab en s2 [125]=true then((ns,ps),Ju en s2 [125])else zbs en p f (ns++[(JF (Ju en s2 [125]) 1).2.2.1]) (ps++[(p (newS en (Ju en s2 [125]) ns)).1]) (Je en (p (newS en (Ju en s2 [125]) ns)).2 [59])from rfl]at HE;have HZ:=J4 (zau en s2 [125]);obtain⟨x,hx⟩:∃x,x=zab en s2 [125]:=⟨_,rfl⟩
  obtain⟨s3,hs3⟩:∃x,x=Ju en s2 [125]:=⟨_,rfl⟩
  rw[<-hx,<-hs3]at CS HE HC;rw[<-hs3]at HZ;clear hx hs3;obtain⟨pn,cn,pe,ce,pp,cp,eN,eE,eP⟩:=(J0 HW).slices;subst eN eE eP
  cases x
  ·go_upto_region 4 with(go_at_call 150;refine(J0 CS).mono ?_;clear CS;rintro e w3 ⟨rfl,r1,r2⟩;have HA:=J4 ((J0 HW).call hl r2 r1);clear r1 r2 HW)
   go_upto_region 4 with fail
   go_cut []from 11 to 39 (fun wx=>∃(vv:Value) (Wy:World),Wy=wx/\Hid (TbS 8 b T en d w (newS en s3 ns) Wy (ns++[(JF s3 1).2.2.1]) [] ps vv (.slice pe ([]:List Bool).length ce) (.slice pp ps.length cp)))
   case first=>
    have c2:=(J8 (J0 HA).1.1).1.2.2.1;have CL:=J4 (tb_name (J0 HA).1 (lo:=w.heap.size+1) (by omega) (Nat.le_refl _) (J0 HA).2.2.1 (by have:=J0 HF;omega))
    go_region_law (first
     | (refine JJ (us:=#[rp b,.slice pn ns.length cn]) rfl 152 _ _ rfl (by simp[Act.eval]) zdh ?_;refine(J0 CL).mono ?_;rintro e w4 ⟨rfl,e1,e2,g,cap,W4,E,e3,e4,HY⟩;refine⟨_,rfl,?_⟩)
     | refine zat rfl (.tmp 17) (.tmp 24) 22 rfl (by simp[Act.eval]) (by simp[Act.eval]) E ?_)
    all_goals
     go_wp2_with fail;go_meet
     case rel=>exact⟨_,_,rfl,(J0 HA).on hl (J0 HY)⟩
   case rest=>
    obtain⟨vN,Wb,rfl,HB⟩:=hcut;clear HA;obtain⟨s5,hs5⟩:∃x,x=newS en s3 ns:=⟨_,rfl⟩
    rw[<-hs5]at HB HE;have HQ:Hid (s5.1.length<=s3.1.length-1):=by rw[hs5];exact zc6 _ _ _
    obtain⟨pn2,cn2,-,-,-,-,eN,-,-⟩:=(J0 HB).slices;subst eN;clear hs5;go_upto_region 5 with fail
    go_cut []from 11 to 39 (fun wx=>∃(vv:Value) (Wy:World),Wy=wx/\Hid (TbS 8 b T en d w (p s5).2 Wy (ns++[(JF s3 1).2.2.1]) [] (ps++[(p s5).1]) (.slice pn2 (ns++[(JF s3 1).2.2.1]).length cn2) (.slice pe ([]:List Bool).length ce) vv))
    case first=>
     have c4:=(J8 (J0 HB).1.1).1.2.2.2.2;have CL:=J4 (tb_part (J0 HP) (J0 HB).1 (lo:=w.heap.size+1) (by omega) (Nat.le_refl _) (J0 HB).2.2.1 (by have:=J0 HF;omega))
     go_region_law (first
      | (refine JJ (us:=#[rp b,.int .i64 (depth+1)]) rfl 90 _ _ rfl (by simp[Act.eval,Act.put,wrap_small h0 h1]) zcj ?_;refine(J0 CL).mono ?_;rintro e w4 ⟨K2,S2,qn,qe,qp,m1,m2,m3,m4,m5,m6,rfl,e1,e2,g,cap,W4,E,e3,e4,HY⟩;refine⟨_,rfl,?_⟩)
      | refine zat rfl (.tmp 28) (.tmp 33) 25 rfl (by simp[Act.eval]) (by simp[Act.eval]) E ?_)
     all_goals
      go_wp2_with fail;go_meet
      case rel=>exact⟨_,_,rfl,(J0 HB).on hl (J0 HY)⟩
    case rest=>
     obtain⟨vP,Wc,rfl,HD⟩:=hcut;clear HB;have ND:=J4 (ze0 b T en (p s5).2 [59] Wc (J0 HD).2.2.1);have hm:(Je en (p s5).2 [59]).1.length<gk:=by
      have a1:=JK en (p s5).2 [59];have a2:=J0 HL s5;have a3:=J0 HQ;have a4:=J0 HC trivial;have a5:=J0 HZ;have a6:=J0 HF;omega
     have hf:=J0 HF;go_wp2_with (go_at_call 153;refine(J0 ND).mono ?_;clear ND;rintro e w6 ⟨rfl,r1,r2⟩;have HG:=J4 ((J0 HD).call hl r2 r1);clear r1 r2);go_roundg (Je en (p s5).2 [59]).1.length
     case measure=>exact hm
     case rel=>exact⟨f,m+1,_,_,_,_,_,_,⟨rfl,by omega,by omega,by simp;omega,by simp;omega⟩,J0 HE,J0 HG⟩
  ·have e0:zbs en p (s0.1.length+1) [] [] s0=((ns,ps),s3):=J0 HE;go_upto_region 7 with(go_at_call 150;refine(J0 CS).mono ?_;clear CS;rintro e w3 ⟨rfl,r1,r2⟩;have HX:=J4 ((J0 HW).call hl r2 r1);clear r1 r2 HW)
   obtain⟨⟨x0,x1,x2,x3,x4⟩,-⟩:=J8 (J0 HX).1.1;obtain⟨⟨z0,z1,z2,z3,z4⟩,zf⟩:=J8 (J0 HX).2.1;go_wp2;obtain⟨Wf,hWf⟩:∃Wf:World,Wf=((((w3.setCell ⟨w.heap.size,0,none⟩ (.int .i64 8)).setCell ⟨w.heap.size,1,none⟩ (.string ⟨#[]⟩)).setCell ⟨w.heap.size,2,none⟩ (.slice pn ns.length cn)).setCell ⟨w.heap.size,3,none⟩ (.slice pe ([]:List Bool).length ce)).setCell ⟨w.heap.size,4,none⟩ (.slice pp ps.length cp):=⟨_,rfl⟩
   obtain⟨d1,d2,d3,d4⟩:=(J0 HX).done hl Wf hWf;simp only[List.length_nil]at hWf;rw[<-hWf];obtain⟨⟨y0,y1,y2,y3,y4⟩,-⟩:=J8 d1;exact bodyPost_ret (v:=Jc 8 ⟨#[]⟩ pn pe pp ns.length cn 0 ce ps.length cp) (by simp[results,Tryz.results91,go_sem,y0,y1,y2,y3,y4]) rfl ⟨_,_,_,_,_,_,_,_,_,_,_,rfl,by rw[e0];exact d2,d3,fun V hV=>by rw[e0];exact d4 V hV⟩
end Go.Proofs.YtdamlfkieecnjaaGreatDoor
namespace Go.Proofs.YtdamlfkieecnjaaGreatDoor
open Go Go.RowKit Lx
def setAll (zs:Array Value):Nat->List Value->Array Value
 | _,[]=>zs
 | o,v::r=>setAll (zs.setIfInBounds o v) (o+1) r
theorem zec:∀(u:List Value) (zs:Array Value) (o:Nat),(setAll zs o u).size=zs.size
 | [],_,_=>rfl
 | v::r,zs,o=>by rw[setAll,zec r];simp
theorem zew:∀(u:List Value) (zs:Array Value) (o:Nat),o+u.length<=zs.size->(setAll zs o u).toList.take (o+u.length)=zs.toList.take o++u
 | [],zs,o,_=>by simp[setAll]
 | v::r,zs,o,h=>by
  simp only[List.length_cons]at h;have ih:=zew r (zs.setIfInBounds o v) (o+1) (by simp;omega);rw[setAll,List.length_cons,show o+(r.length+1)=o+1+r.length by omega,ih];have:(zs.setIfInBounds o v).toList.take (o+1)=zs.toList.take o++[v]:=by
   rw[Array.toList_setIfInBounds,List.take_add_one,List.take_set_of_le (Nat.le_refl _)];simp[show o<zs.size by omega]
  rw[this,List.append_assoc]
  rfl
section
variable {α:Type} {T tb TR Ts:TypeId} {n:Nat} {Q:World->List Value->α->Prop} {M:Nat->Prop} {lo:Nat} {W W5:World} {xs:List α} {x0 x:α} {g cap:Nat} {u:List Value}
theorem Row.setLast (h:Row T n Q lo M W (.slice (some ⟨g,0,none⟩) (xs.length+1) cap) (xs++[x0])) (hg:M g) (h5:∀cur:Array Value,W.heap[g]?=some (.cells cur T)->W5.heap[g]?=some (.cells (setAll cur (xs.length*n) u) T)) (hk:∀j,lo<=j->j≠g->W5.heap[j]?=W.heap[j]?) (hs:W5.heap.size=W.heap.size) (hun:u.length=n) (hu:Fx lo M W5 (fun V=>Q V u x)) :
  Row T n Q lo M W5 (.slice (some ⟨g,0,none⟩) (xs.length+1) cap) (xs++[x]):=by
 obtain⟨es,hl,hn,ho,he⟩:=h;simp only[List.length_append,List.length_singleton]at hl ho;have hne:es≠[]:=by intro e;rw[e]at hl;simp at hl
 obtain⟨es0,e0,rfl⟩:∃es0 e0,es=es0++[e0]:=⟨es.dropLast,es.getLast hne,(List.dropLast_concat_getLast hne).symm⟩
 simp only[List.length_append,List.length_singleton,Nat.add_right_cancel_iff]at hl;have hn0:∀e∈es0,e.length=n:=fun e he=>hn e (by simp[he])
 have hfl:∀(l:List (List Value)),(∀e∈l,e.length=n)->l.flatten.length=l.length*n:=fun l=>by
  induction l with
  | nil=>simp
  | cons a r ih=>intro h;rw[List.flatten_cons,List.length_append,ih (fun e he=>h e (by simp[he])),h a (by simp),List.length_cons,Nat.succ_mul];omega
 refine⟨es0++[u],by simp[hl],fun e he=>?_,⟨?_,?_⟩,fun j y z hj hz=>?_⟩
 ·rcases List.mem_append.1 he with h|h
  ·exact hn0 e h
  ·rw[List.mem_singleton.1 h];exact hun
 ·rw[hfl _ (fun e he=>by rcases List.mem_append.1 he with h|h;exact hn0 e h;rw[List.mem_singleton.1 h];exact hun)];simp[hl]
 ·rcases ho.2 with⟨e,_⟩|⟨g',cap',cur,e,hb,hc,q1,q2,q3,q4⟩
  ·cases e
  ·injection e with e1 _ e3
   obtain rfl:g=g':=by simpa using e1
   subst e3;refine .inr ⟨g,cap,setAll cur (xs.length*n) u,by simp,hb,h5 cur hc,by simpa using q1,q2,by rw[zec];exact q3,?_⟩;have hle:xs.length*n+u.length<=cur.size:=by
    rw[hun,q3,<-Nat.succ_mul];exact Nat.mul_le_mul_right n q1
   have q5:=zew u cur (xs.length*n) hle;rw[hun,<-Nat.succ_mul]at q5;simp only[List.length_append,List.length_singleton];rw[q5];have:cur.toList.take (xs.length*n)=es0.flatten:=by
    have q6:=congrArg (List.take (xs.length*n)) q4;rw[List.take_take,Nat.min_eq_left (Nat.mul_le_mul_right n (Nat.le_succ _))]at q6;rw[q6,List.flatten_append,List.take_append_of_le_length (by rw[hfl _ hn0,hl];exact Nat.le_refl _),List.take_of_length_le (by rw[hfl _ hn0,hl];exact Nat.le_refl _)]
   rw[this];simp
 ·rcases Nat.lt_or_ge j xs.length with hlt|hge
  ·rw[List.getElem?_append_left (by omega)]at hj;rw[List.getElem?_append_left hlt]at hz;exact(he j y z (by rw[List.getElem?_append_left (by omega)];exact hj) (by rw[List.getElem?_append_left hlt];exact hz)).step (by omega) (fun k k1 _ k3=>hk k k1 (fun e=>k3 (e ▸ hg))) (fun _ _ h=>h)
  ·rw[List.getElem?_append_right (by omega)]at hj;rw[List.getElem?_append_right hge]at hz;have ej:j-xs.length=0:=by
    rcases Nat.eq_zero_or_pos (j-xs.length)with e|e
    ·exact e
    ·rw[List.getElem?_eq_none (by simp;omega)]at hz;cases hz
   rw[ej]at hz;rw[hl,ej]at hj;simp at hj hz;subst hj hz;exact hu
theorem Row.grow2 {z:Value} {by1 b bx i B:Nat} {en:Int} {s:RS} {wr w1 W3:World} {zs:Array Value} {v:Value} {u0:List Value} (ht:Tryz.prog.underlying Ts=some (.slice T)) (hi0:(Tryz.prog.info? T).map (fun i=>(i.zero,i.size,i.bytes))=some (some z,n,by1)) (hz:z.cells.size=n) (hn0:0<n) (hb1:by1<=1000) (hT:T≠114) (htb:tb≠114)
  (hbl:b<lo) (hlb:lo<=bx) (hx:wr.heap[bx]?=some (.cells zs tb)) (hv:zs[i]?=some v) (h:Row T n Q (bx+1) M wr v xs) (hM:∀k,M k->k<wr.heap.size) (hvM:∀k,v.ownBlock=some k->M k) (hb:Kx b wr w1) (hR:RdAt b TR en s w1) (h3:Below w1.heap.size w1 W3) (hB:W3.heap[B]?=some (.cells u0.toArray T))
  (hu0:∀V:World,Q V u0 x0) (h10:∀c∈u0,c.oneCell'=true) (hun0:u0.length=n)
  (hu:∀V:World,(∀j,wr.heap.size<=j->j<w1.heap.size->V.heap[j]?=w1.heap[j]?)->Q V u x) (hun:u.length=n) (hl:xs.length<=1000000) :
  W3.cell? ⟨bx,i,none⟩=some v/\∃(g cap:Nat) (W4:World),(Builtin.append_ #[Ts,Ts] Ts #[v,.slice (some ⟨B,0,none⟩) 1 1]).run Tryz.prog W3=.ok (.slice (some ⟨g,0,none⟩) (xs.length+1) cap) W4 /\
   W4.cell? ⟨bx,i,none⟩=some v/\W4.frozen? ⟨bx,i,none⟩=false/\g≠bx/\g<W4.heap.size/\(∀k,k<n->∃c,W4.cell? ⟨g,xs.length*n+k,none⟩=some c)/\(∀k,W4.frozen? ⟨g,k,none⟩=false)/\(W4.heap[bx]?=some (.cells zs tb)/\bx<g/\∀j,j<bx->W4.heap[j]?=W3.heap[j]?) /\
   ∀W5,W5.heap[bx]?=some (.cells (zs.setIfInBounds i (.slice (some ⟨g,0,none⟩) (xs.length+1) cap)) tb)->(∀cur:Array Value,W4.heap[g]?=some (.cells cur T)->W5.heap[g]?=some (.cells (setAll cur (xs.length*n) u) T))->(∀j,j≠bx->j≠g->W5.heap[j]?=W4.heap[j]?)->W5.heap.size=W4.heap.size->Below b W4 W5 ->
   (v.ownBlock=some g∨W3.heap.size<=g) /\
   (∀M':Nat->Prop,(∀k,M' k->k<W3.heap.size->M k)->M' g->Row T n Q (bx+1) M' W5 (.slice (some ⟨g,0,none⟩) (xs.length+1) cap) (xs++[x])) /\
   wr.heap.size<=W5.heap.size/\(∀j,j<wr.heap.size->j≠b->j≠bx->some j≠v.ownBlock->W5.heap[j]?=wr.heap[j]?)/\Kl b lo wr W5/\RdAt b TR en s W5:=by
 have hbx:bx<wr.heap.size:=(Array.getElem?_eq_some_iff.1 hx).1;have hs1:=hb.size;have hs3:=h3.size;have hx3:W3.heap[bx]?=some (.cells zs tb):=(h3.block _ (by omega)).trans ((hb.2 _ hbx (by omega)).trans hx);obtain⟨g,cap,W4,E,hrow,hs4,hk4,hgg,hb4⟩:=h.append (b:=b) (x:=x0) ht hi0 hz hn0 hb1 (by omega) hM hvM hb (by omega) h3 hB (fun V _=>hu0 V) h10 hun0 hl;have hown:∀k,v.ownBlock=some k->bx+1<=k/\k<wr.heap.size:=h.lt
 have hx4:W4.heap[bx]?=some (.cells zs tb):=(hk4 _ (by omega) (fun ej=>by have:=(hown _ ej.symm).1;omega)).trans hx3;have hg:=(hrow (fun _=>False) (fun _ h=>h.elim)).lt g rfl;have hgne:g≠bx:=by have:=hg.1;omega
 obtain⟨cg,hcg⟩:=(hrow (fun _=>False) (fun _ h=>h.elim)).type (k:=g) rfl;refine⟨by rw[Lib.cell_of_heap hx3];exact hv,g,cap,W4,E,by rw[Lib.cell_of_heap hx4];exact hv,Lib.frozen_of_heap hx4 i,hgne,hg.2,fun k hk=>?_,fun k=>Lib.frozen_of_heap hcg k,⟨hx4,by have:=hg.1;omega,fun j hj=>hb4.block j (by omega)⟩,fun W5 w1' w2' w3' w4' w5'=>⟨hgg.imp id (fun e=>by omega),fun M' hM' hMg=>?_,by omega,fun j j1 j2 j3 j4=>?_,?_,?_⟩⟩
 ·obtain⟨es,_,_,eo,_⟩:=hrow (fun _=>False) (fun _ h=>h.elim);rcases eo.2 with⟨e,_⟩|⟨g',cap',cur,e,_,hc,q1,_,q3,_⟩
  ·cases e
  ·injection e with e1 _ e3
   obtain rfl:g=g':=by simpa using e1
   have hi:xs.length*n+k<cur.size:=by
    rw[q3];simp only[List.length_append,List.length_singleton]at q1;have:=Nat.mul_le_mul_right n q1;rw[Nat.succ_mul]at this;omega
   exact⟨cur[xs.length*n+k],by rw[Lib.cell_of_heap hc];simp[hi]⟩
 ·have hk5:∀j,bx+1<=j->j≠g->W5.heap[j]?=W4.heap[j]?:=fun j j1 j2=>w3' j (by omega) j2
  refine(hrow M' hM').setLast hMg w2' hk5 w4' hun fun V hV=>hu V fun j j1 j2=>?_
  have n1:j≠g:=by
   rcases hgg with e|e
   ·have:=(hown g e).2;omega
   ·omega
  rw[hV j (by omega) (by omega) (fun hm=>by have:=hM j (hM' j hm (by omega));omega),w3' j (by omega) n1,hk4 j (by omega) (fun ej=>by have:=(hown _ ej.symm).2;omega),h3.block j j2]
 ·have n1:j≠g:=by
   rintro rfl;rcases hgg with e|e
   ·exact j4 e.symm
   ·omega
  rw[w3' j j3 n1,hk4 j (by omega) j4,h3.block j (by omega),hb.2 j j1 j2]
 ·refine⟨hb.1.trans ((h3.mono (by omega)).trans ((hb4.mono (by omega)).trans w5')),fun j j1 j2=>?_⟩;have n1:j≠g:=by have:=hg.1;omega
  rw[w3' j (by omega) n1,hk4 j (by omega) (fun ej=>by have:=(hown _ ej.symm).1;omega),h3.block j (by omega),hb.2 j (by omega) j2]
 ·have hbb:∀j,j<w1.heap.size->j≠bx->some j≠v.ownBlock->W5.heap[j]?=w1.heap[j]?:=fun j j1 j2 j3=>by
   have n1:j≠g:=by
    rintro rfl;rcases hgg with e|e
    ·exact j3 e.symm
    ·omega
   rw[w3' j j2 n1,hk4 j (by omega) j3,h3.block j j1]
  refine hR.stay ((h3.mono (by have:=hR.lt;omega)).trans ((hb4.mono (by omega)).trans w5')) (hbb b hR.lt (by omega) (fun ej=>by have:=(hown _ ej.symm).1;omega)) fun k c hc=>?_
  have hk:k<w1.heap.size:=(Array.getElem?_eq_some_iff.1 hc).1;have hx1:w1.heap[bx]?=some (.cells zs tb):=(hb.2 _ hbx (by omega)).trans hx;refine hbb k hk (zde hc hx1 (Ne.symm htb)) fun ej=>?_
  obtain⟨c',hc'⟩:=h.type ej.symm;exact zde ((hb.2 k (hown k ej.symm).2 (by have:=(hown k ej.symm).1;omega)).trans hc') hc hT rfl
end
end Go.Proofs.YtdamlfkieecnjaaGreatDoor
namespace Go.Proofs.YtdamlfkieecnjaaGreatDoor
open Go Go.RowKit Lx
def Grown2 (Ts T:TypeId) (bx i n m:Nat) (v:Value) (B:Nat) (u:List Value) (zs:Array Value) (tb:TypeId) (b:Nat) (W3:World) (P:Value->World->Prop):Prop:=
 W3.cell? ⟨bx,i,none⟩=some v/\∃(g cap:Nat) (W4:World),(Builtin.append_ #[Ts,Ts] Ts #[v,.slice (some ⟨B,0,none⟩) 1 1]).run Tryz.prog W3=.ok (.slice (some ⟨g,0,none⟩) (m+1) cap) W4 /\
   W4.cell? ⟨bx,i,none⟩=some v/\W4.frozen? ⟨bx,i,none⟩=false/\g≠bx/\g<W4.heap.size/\(∀k,k<n->∃c,W4.cell? ⟨g,m*n+k,none⟩=some c)/\(∀k,W4.frozen? ⟨g,k,none⟩=false)/\bx<g/\(∀j,j<bx->W4.heap[j]?=W3.heap[j]?) /\
   Hid ((W4.heap[bx]?=some (.cells zs tb)/\bx<g)/\∀W5,W5.heap[bx]?=some (.cells (zs.setIfInBounds i (.slice (some ⟨g,0,none⟩) (m+1) cap)) tb)->(∀cur:Array Value,W4.heap[g]?=some (.cells cur T)->W5.heap[g]?=some (.cells (setAll cur (m*n) u) T))->(∀j,j≠bx->j≠g->W5.heap[j]?=W4.heap[j]?)->W5.heap.size=W4.heap.size->Below b W4 W5->P (.slice (some ⟨g,0,none⟩) (m+1) cap) W5)
section
variable {K en:Int} {d bx b lo:Nat} {TR:TypeId} {s:RS} {wr w1 W3:World} {ns:List Bs} {es:List Bool} {ps:List (Ty (d+1))} {vN vE vP:Value}
theorem zTy_v (V:World) (d:Nat):TyV V d (.agg #[.int .i64 0,.string ⟨#[]⟩,.slice none 0 0,.slice none 0 0,.slice none 0 0]) (zTy d):=
 ⟨none,none,none,0,0,0,rfl,⟨none,0,rfl,fun j t h=>by simp[zTy,zaf]at h⟩,⟨none,0,rfl,fun j t h=>by simp[zTy,zaf]at h⟩,by
  cases d with
  | zero=>exact⟨none,0,rfl⟩
  | succ d=>exact⟨none,0,rfl,fun j t h=>by simp[zTy,zaf]at h⟩⟩
theorem TbAt.part2 {t:Ty (d+1)} {u:List Value} {B:Nat} (h:TbAt K d bx wr ns es ps vN vE vP) (hbl:b<lo) (hlb:lo<=bx) (hx:Kx b wr w1) (hR:RdAt b TR en s w1) (h3:Below w1.heap.size w1 W3) (hB:W3.heap[B]?=some tyO) (hu:∀V:World,(∀j,wr.heap.size<=j->j<w1.heap.size->V.heap[j]?=w1.heap[j]?)->TyV V d (.agg u.toArray) t) (hun:u.length=5) (hl:ps.length<=1000000) :
  Grown2 25 27 bx 4 5 ps.length vP B u #[.int .i64 K,.string ⟨#[]⟩,vN,vE,vP] 27 b W3 fun v' W5=>TbAt K d bx W5 ns es (ps++[t]) vN vE v'/\Kl b lo wr W5/\RdAt b TR en s W5:=by
 obtain⟨e1,g,cap,W4,E,e2,e3,e4,e5,e6,e7,e8,HW⟩:=h.2.2.2.grow2 (v:=vP) (b:=b) (lo:=lo) (x:=t) (x0:=zTy d) (i:=4) (u:=u) (u0:=[.int .i64 0,.string ⟨#[]⟩,.slice none 0 0,.slice none 0 0,.slice none 0 0]) Tryz.underlying25 inf_ty rfl (by decide) (by decide) (by decide) (by decide) hbl hlb h.1 rfl h.lt (fun k=>mu3) hx hR h3 hB (fun V=>zTy_v V d) (one5 _ _ _ _ _ _ _ _ _ _ _) rfl hu hun hl;refine⟨e1,g,cap,W4,E,e2,e3,e4,e5,e6,e7,e8.2.1,e8.2.2,⟨e8.1,e8.2.1⟩,fun W5 k1 k2 k3 k4 k5=>?_⟩;obtain⟨f1,f2,f3,f4,f5,f6⟩:=HW W5 k1 k2 k3 k4 k5;have hM1:∀k,Mu [vN,vE,.slice (some ⟨g,0,none⟩) (ps.length+1) cap] k->k<W3.heap.size->Mu [vN,vE,vP] k:=fun k hm hk=>by
  rcases zas hm with e|e|e
  ·exact mu1 e
  ·exact mu2 e
  ·obtain rfl:g=k:=by simpa[Value.ownBlock]using e
   rcases f1 with f|f
   ·exact mu3 f
   ·omega
 have hM:∀k,k<wr.heap.size->Mu [vN,vE,.slice (some ⟨g,0,none⟩) (ps.length+1) cap] k->Mu [vN,vE,vP] k:=fun k hk hm=>hM1 k hm (by have:=hx.size;have:=h3.size;omega)
 exact⟨⟨k1,JE (by omega) h.2.2.2 h.2.1 (by decide) (fun k=>mu3) f3 f4 hM,JE (by omega) h.2.2.2 h.2.2.1 (by decide) (fun k=>mu3) f3 f4 hM,f2 _ hM1 (mu3 rfl)⟩,f5,f6⟩
end
theorem stored1 {W4:World} {bx g o b:Nat} {zs:Array Value} {tb:TypeId} {v' a0 a1 a2 a3 a4:Value} (hne:g≠bx) (hb:b<=bx) (hg:b<=g) (hx:W4.heap[bx]?=some (.cells zs tb)):∀W5,W5=(((((W4.setCell ⟨g,o,none⟩ a0).setCell ⟨g,o+1,none⟩ a1).setCell ⟨g,o+2,none⟩ a2).setCell ⟨g,o+3,none⟩ a3).setCell ⟨g,o+4,none⟩ a4).setCell ⟨bx,4,none⟩ v' ->
  W5.heap[bx]?=some (.cells (zs.setIfInBounds 4 v') tb)/\(∀(T:TypeId) (cur:Array Value),W4.heap[g]?=some (.cells cur T)->W5.heap[g]?=some (.cells (setAll cur o [a0,a1,a2,a3,a4]) T))/\(∀j,j≠bx->j≠g->W5.heap[j]?=W4.heap[j]?)/\W5.heap.size=W4.heap.size/\Below b W4 W5:=by
 rintro W5 rfl;refine⟨Ja ?_ v',fun T cur hc=>?_,fun j j1 j2=>?_,by simp,?_⟩
 ·rw[Below.heap_setCell _ _ _ _ hne.symm,Below.heap_setCell _ _ _ _ hne.symm,Below.heap_setCell _ _ _ _ hne.symm,Below.heap_setCell _ _ _ _ hne.symm,Below.heap_setCell _ _ _ _ hne.symm];exact hx
 ·exact(Below.heap_setCell _ _ _ _ hne).trans (Ja (Ja (Ja (Ja (Ja hc a0) a1) a2) a3) a4)
 ·rw[Below.heap_setCell _ _ _ _ j1,Below.heap_setCell _ _ _ _ j2,Below.heap_setCell _ _ _ _ j2,Below.heap_setCell _ _ _ _ j2,Below.heap_setCell _ _ _ _ j2,Below.heap_setCell _ _ _ _ j2]
 ·exact((((((Below.refl b W4).setCell (p:=⟨g,o,none⟩) hg _).setCell (p:=⟨g,o+1,none⟩) hg _).setCell (p:=⟨g,o+2,none⟩) hg _).setCell (p:=⟨g,o+3,none⟩) hg _).setCell (p:=⟨g,o+4,none⟩) hg _).setCell (p:=⟨bx,4,none⟩) hb _
theorem stored2 {W4:World} {bx g o b:Nat} {zs:Array Value} {tb:TypeId} {v' a0 a1 a2 a3 a4:Value} (hne:g≠bx) (hb:b<=bx) (hg:b<=g) (hx:W4.heap[bx]?=some (.cells zs tb)):∀W5,W5=(((((W4.setCell ⟨bx,4,none⟩ v').setCell ⟨g,o,none⟩ a0).setCell ⟨g,o+1,none⟩ a1).setCell ⟨g,o+2,none⟩ a2).setCell ⟨g,o+3,none⟩ a3).setCell ⟨g,o+4,none⟩ a4 ->
  W5.heap[bx]?=some (.cells (zs.setIfInBounds 4 v') tb)/\(∀(T:TypeId) (cur:Array Value),W4.heap[g]?=some (.cells cur T)->W5.heap[g]?=some (.cells (setAll cur o [a0,a1,a2,a3,a4]) T))/\(∀j,j≠bx->j≠g->W5.heap[j]?=W4.heap[j]?)/\W5.heap.size=W4.heap.size/\Below b W4 W5:=by
 rintro W5 rfl;refine⟨?_,fun T cur hc=>?_,fun j j1 j2=>?_,by simp,?_⟩
 ·rw[Below.heap_setCell _ _ _ _ hne.symm,Below.heap_setCell _ _ _ _ hne.symm,Below.heap_setCell _ _ _ _ hne.symm,Below.heap_setCell _ _ _ _ hne.symm,Below.heap_setCell _ _ _ _ hne.symm];exact Ja hx v'
 ·exact Ja (Ja (Ja (Ja (Ja ((Below.heap_setCell _ _ _ _ hne).trans hc) a0) a1) a2) a3) a4
 ·rw[Below.heap_setCell _ _ _ _ j2,Below.heap_setCell _ _ _ _ j2,Below.heap_setCell _ _ _ _ j2,Below.heap_setCell _ _ _ _ j2,Below.heap_setCell _ _ _ _ j2,Below.heap_setCell _ _ _ _ j1]
 ·exact((((((Below.refl b W4).setCell (p:=⟨bx,4,none⟩) hb _).setCell (p:=⟨g,o,none⟩) hg _).setCell (p:=⟨g,o+1,none⟩) hg _).setCell (p:=⟨g,o+2,none⟩) hg _).setCell (p:=⟨g,o+3,none⟩) hg _).setCell (p:=⟨g,o+4,none⟩) hg _
section
variable {T:TypeId} {bx g m b cap:Nat} {v a0 a1 a2 a3 a4:Value} {zs:Array Value} {tb:TypeId} {W4:World} {P:Value->World->Prop}
def Ends (T:TypeId) (bx g m b cap:Nat) (u:List Value) (zs:Array Value) (tb:TypeId) (W4:World) (P:Value->World->Prop):Prop:=
 (W4.heap[bx]?=some (.cells zs tb)/\bx<g)/\∀W5,W5.heap[bx]?=some (.cells (zs.setIfInBounds 4 (.slice (some ⟨g,0,none⟩) (m+1) cap)) tb)->(∀cur:Array Value,W4.heap[g]?=some (.cells cur T)->W5.heap[g]?=some (.cells (setAll cur (m*5) u) T))->(∀j,j≠bx->j≠g->W5.heap[j]?=W4.heap[j]?)->W5.heap.size=W4.heap.size->Below b W4 W5->P (.slice (some ⟨g,0,none⟩) (m+1) cap) W5
theorem ends1 (hb:b<=bx) (h:Ends T bx g m b cap [a0,a1,a2,a3,a4] zs tb W4 P):P (.slice (some ⟨g,0,none⟩) (m+1) cap) ((((((W4.setCell ⟨g,m*5,none⟩ a0).setCell ⟨g,m*5+1,none⟩ a1).setCell ⟨g,m*5+2,none⟩ a2).setCell ⟨g,m*5+3,none⟩ a3).setCell ⟨g,m*5+4,none⟩ a4).setCell ⟨bx,4,none⟩ (.slice (some ⟨g,0,none⟩) (m+1) cap)):=by
 obtain⟨⟨h1,h2⟩,h3⟩:=h;obtain⟨q1,q2,q3,q4,q5⟩:=stored1 (b:=b) (o:=m*5) (a0:=a0) (a1:=a1) (a2:=a2) (a3:=a3) (a4:=a4) (v':=.slice (some ⟨g,0,none⟩) (m+1) cap) (show g≠bx by omega) hb (by omega) h1 _ rfl;exact h3 _ q1 (q2 _) q3 q4 q5
theorem ends2 (hb:b<=bx) (h:Ends T bx g m b cap [a0,a1,a2,a3,a4] zs tb W4 P):P (.slice (some ⟨g,0,none⟩) (m+1) cap) ((((((W4.setCell ⟨bx,4,none⟩ (.slice (some ⟨g,0,none⟩) (m+1) cap)).setCell ⟨g,m*5,none⟩ a0).setCell ⟨g,m*5+1,none⟩ a1).setCell ⟨g,m*5+2,none⟩ a2).setCell ⟨g,m*5+3,none⟩ a3).setCell ⟨g,m*5+4,none⟩ a4):=by
 obtain⟨⟨h1,h2⟩,h3⟩:=h;obtain⟨q1,q2,q3,q4,q5⟩:=stored2 (b:=b) (o:=m*5) (a0:=a0) (a1:=a1) (a2:=a2) (a3:=a3) (a4:=a4) (v':=.slice (some ⟨g,0,none⟩) (m+1) cap) (show g≠bx by omega) hb (by omega) h1 _ rfl;exact h3 _ q1 (q2 _) q3 q4 q5
end
end Go.Proofs.YtdamlfkieecnjaaGreatDoor
namespace Go.Proofs.YtdamlfkieecnjaaGreatDoor
open Go Go.RowKit Lx
theorem zTyV (V:World) (d:Nat):TyV V d (Jc 0 ⟨#[]⟩ none none none 0 0 0 0 0 0) (zTy d):=
 ⟨none,none,none,0,0,0,rfl,⟨none,0,rfl,fun j t h=>by simp[zTy,zaf]at h⟩,⟨none,0,rfl,fun j t h=>by simp[zTy,zaf]at h⟩,by
  cases d with
  | zero=>exact⟨none,0,rfl⟩
  | succ d=>exact⟨none,0,rfl,fun j t h=>by simp[zTy,zaf]at h⟩⟩
theorem leafV (V:World) (d:Nat) (K:Int) (S:Bs):TyV V d (Jc K ⟨S.toArray⟩ none none none 0 0 0 0 0 0) (zaf d K S [] [] []):=
 ⟨none,none,none,0,0,0,rfl,⟨none,0,rfl,fun j t h=>by simp[zaf]at h⟩,⟨none,0,rfl,fun j t h=>by simp[zaf]at h⟩,by
  cases d with
  | zero=>exact⟨none,0,rfl⟩
  | succ d=>exact⟨none,0,rfl,fun j t h=>by simp[zaf]at h⟩⟩
theorem zch {en:Int} {d b k0:Nat} {T:TypeId} {s:RS} {w wb w3:World} {K:Int} {S:ByteArray} {pn pe pp:Option Addr} {nn cn ne ce np cp:Nat} {t:Ty (d+1)} (k3:w3.heap[k0]?=some tyO) (hR:RdAt b T en s w3) (hK:Kl b w.heap.size w w3) (hb:b<w.heap.size) (hk0:w.heap.size<=k0) (hwb:k0<wb.heap.size) (hF:∀V:World,(∀j,wb.heap.size<=j->j<w3.heap.size->V.heap[j]?=w3.heap[j]?)->TyV V d (Jc K S pn pe pp nn cn ne ce np cp) t)
  (W6:World) (e:W6=((((w3.setCell ⟨k0,0,none⟩ (.int .i64 K)).setCell ⟨k0,1,none⟩ (.string S)).setCell ⟨k0,2,none⟩ (.slice pn nn cn)).setCell ⟨k0,3,none⟩ (.slice pe ne ce)).setCell ⟨k0,4,none⟩ (.slice pp np cp)) :
  W6.heap[k0]?=some (.cells #[.int .i64 K,.string S,.slice pn nn cn,.slice pe ne ce,.slice pp np cp] 27)/\RdAt b T en s W6/\Kx b w W6/\∀V:World,(∀j,w.heap.size<=j->j<W6.heap.size->V.heap[j]?=W6.heap[j]?)->TyV V d (Jc K S pn pe pp nn cn ne ce np cp) t:=by
 have hbk:b<k0:=by omega
 have k1:=Ja (i:=0) k3 (.int .i64 K);have k2:=Ja (i:=1) k1 (.string S);have k3':=Ja (i:=2) k2 (.slice pn nn cn);have k4:=Ja (i:=3) k3' (.slice pe ne ce);have k5:=Ja (i:=4) k4 (.slice pp np cp);have r1:=(((((hR.put k3 (by decide) hbk 0 (.int .i64 K)).put k1 (by decide) hbk 1 (.string S)).put k2 (by decide) hbk 2 (.slice pn nn cn)).put k3' (by decide) hbk 3 (.slice pe ne ce)).put k4 (by decide) hbk 4 (.slice pp np cp))
 have hbl:=Nat.le_of_lt hb;have r2:=((((hK.setHigh (i:=0) hbl hk0 (.int .i64 K)).setHigh (i:=1) hbl hk0 (.string S)).setHigh (i:=2) hbl hk0 (.slice pn nn cn)).setHigh (i:=3) hbl hk0 (.slice pe ne ce)).setHigh (i:=4) hbl hk0 (.slice pp np cp);have hs:W6.heap.size=w3.heap.size:=by rw[e];simp
 have hk:∀j,j≠k0->W6.heap[j]?=w3.heap[j]?:=fun j hj=>by rw[e,Below.heap_setCell _ _ _ _ hj,Below.heap_setCell _ _ _ _ hj,Below.heap_setCell _ _ _ _ hj,Below.heap_setCell _ _ _ _ hj,Below.heap_setCell _ _ _ _ hj]
 rw[<-e]at k5 r1 r2;exact⟨k5,r1,r2,fun V hV=>hF V fun j j1 j2=>(hV j (by omega) (by omega)).trans (hk j (by omega))⟩
theorem ptrV {d:Nat} {V:World} {B:Nat} {K:Int} {S:ByteArray} {pn pe pp:Option Addr} {nn cn ne ce np cp:Nat} {t:Ty (d+1)} (hB:V.heap[B]?=some (.cells #[.int .i64 K,.string S,.slice pn nn cn,.slice pe ne ce,.slice pp np cp] 27)) (h:TyV V d (Jc K S pn pe pp nn cn ne ce np cp) t):TyV V (d+1) (Jc 5 ⟨#[]⟩ none none (some ⟨B,0,none⟩) 0 0 0 0 1 1) (zaf (d+1) 5 [] [] [] [t]):=by
 refine⟨none,none,some ⟨B,0,none⟩,0,0,1,rfl,⟨none,0,rfl,fun j t h=>by simp[zaf]at h⟩,⟨none,0,rfl,fun j t h=>by simp[zaf]at h⟩,some ⟨B,0,none⟩,1,rfl,fun j x hx=>?_⟩;have hx':[t][j]?=some x:=hx
 cases j with
 | succ j=>simp at hx'
 | zero=>
  obtain rfl:t=x:=by simpa using hx'
  obtain⟨qn,qe,qp,m1,m2,m3,e,r1,r2,r3⟩:=h;simp only[Value.agg.injEq]at e;have e':=congrArg Array.toList e;simp only[List.cons.injEq,and_true]at e';obtain⟨a0,a1,a2,a3,a4⟩:=e';have c:∀i,V.cell? ⟨B,i,none⟩=#[Value.int .i64 K,.string S,.slice pn nn cn,.slice pe ne ce,.slice pp np cp][i]?:=fun i=>Lib.cell_of_heap hB i
  refine⟨B,0,.slice pn nn cn,.slice pe ne ce,.slice pp np cp,rfl,?_,?_,?_,?_,?_,a2 ▸ r1,a3 ▸ r2,a4 ▸ r3⟩
  ·rw[c,<-a0];rfl
  ·rw[c,<-a1];rfl
  ·rw[c];rfl
  ·rw[c];rfl
  ·rw[c];rfl
end Go.Proofs.YtdamlfkieecnjaaGreatDoor
namespace Go.Proofs.YtdamlfkieecnjaaGreatDoor
open Go Go.RowKit Lx
theorem type1_any (b:Nat) (T:TypeId) (en:Int) (d:Nat) (p:RS->Ty (d+1)×RS) (hP:za1 b T en 43 #[rp b,.int .i64 1] d p):za1 b T en 42 #[rp b] d p:=fun s w h=>by
 have hl:=h.lt;have HQ:=J4 (hP s (w.alloc tyO) (h.alloc _));clear hP h;go_enter Tryz.func42,Tryz.ntmps42;go_wp2_with (go_at_call 43;refine(J0 HQ).mono ?_;clear HQ;rintro e w1 ⟨K,S,pn,pe,pp,nn,cn,ne,ce,np,cp,rfl,r1,r2,r4⟩;have r3:w1.heap[w.heap.size]?=some tyO:=(r2.2 _ (by simp) (by omega)).trans (J6 w tyO);obtain⟨⟨z0,z1,z2,z3,z4⟩,zf⟩:=J8 r3;have R1:=J4 r1;have R2:=J4 r2;have R3:=J4 r3;have R4:=J4 r4;clear r1 r2 r3 r4);obtain⟨Wf,hWf⟩:∃Wf:World,Wf=((((w1.setCell ⟨w.heap.size,0,none⟩ (.int .i64 K)).setCell ⟨w.heap.size,1,none⟩ (.string S)).setCell ⟨w.heap.size,2,none⟩ (.slice pn nn cn)).setCell ⟨w.heap.size,3,none⟩ (.slice pe ne ce)).setCell ⟨w.heap.size,4,none⟩ (.slice pp np cp):=⟨_,rfl⟩
 rw[<-hWf];have hK:Kl b w.heap.size w w1:=Kl.on (.of_below (zb2 tyO) (Nat.le_of_lt hl)) (J0 R2);obtain⟨d1,d2,d3,d4⟩:=zch (wb:=w.alloc tyO) (t:=(p s).1) (J0 R3) (J0 R1) hK hl (Nat.le_refl _) (by simp) (J0 R4) Wf hWf;obtain⟨⟨y0,y1,y2,y3,y4⟩,-⟩:=J8 d1;exact bodyPost_ret (v:=Jc K S pn pe pp nn cn ne ce np cp) (by simp[results,Tryz.results42,go_sem,y0,y1,y2,y3,y4]) rfl ⟨_,_,_,_,_,_,_,_,_,_,_,rfl,d2,d3,d4⟩
end Go.Proofs.YtdamlfkieecnjaaGreatDoor
namespace Go.Proofs.YtdamlfkieecnjaaGreatDoor
open Go Go.RowKit Lx
abbrev tyZ:Value:=Jc 0 ⟨#[]⟩ none none none 0 0 0 0 0 0
abbrev refI (k:Nat):Value:=.iface 94 (.pointer (some ⟨k,0,none⟩))
abbrev refO (a y:Int):Obj:=.cells #[.int .i64 a,.int .i64 y] 114
theorem readT_lex (F:Value) (src:ByteArray) (a y:Nat) (hs:src.size<=140737488355328) (hx:(lex src.data.toList).2=some (a,y)) (w:World) :
  Calls Tryz.prog 41 #[.string src,F] w fun e w'=>∃k,e=.returned (.tuple #[tyZ,refI k])/\w'.heap[k]?=some (refO a y)/\Below w.heap.size w w':=by
 have TK:=J4 (fun W=>toks_no src a y hs hx W);clear hx;go_enter Tryz.func41,Tryz.ntmps41;go_wp2_with (go_at_call 83;refine(J0 TK _).mono ?_;clear TK;rintro e w2 ⟨k,rfl,r1,r3,r2⟩;have hk2:w.heap.size+2<=k:=(by simpa using r3);have i1:w2.heap[w.heap.size]?=some tyO:=(r2.block _ (by simp <;> omega)).trans ((J9 _ _ (by simp)).trans (J6 w tyO));have i2:w2.heap[w.heap.size+1]?=some tyO:=(r2.block _ (by simp)).trans (zar _ _ (by simp));obtain⟨⟨z0,z1,z2,z3,z4⟩,zf⟩:=J8 i1;obtain⟨⟨y0,y1,y2,y3,y4⟩,-⟩:=J8 i2;have R1:=J4 r1;have R2:=J4 r2;have I1:=J4 i1;have R3:=J4 r3;clear r1 r2 r3 i1 i2);obtain⟨Wf,hWf⟩:∃Wf:World,Wf=((((w2.setCell ⟨w.heap.size,0,none⟩ (.int .i64 0)).setCell ⟨w.heap.size,1,none⟩ (.string ⟨#[]⟩)).setCell ⟨w.heap.size,2,none⟩ (.slice none 0 0)).setCell ⟨w.heap.size,3,none⟩ (.slice none 0 0)).setCell ⟨w.heap.size,4,none⟩ (.slice none 0 0):=⟨_,rfl⟩
 rw[<-hWf];have k5:Wf.heap[w.heap.size]?=some (.cells #[.int .i64 0,.string ⟨#[]⟩,.slice none 0 0,.slice none 0 0,.slice none 0 0] 27):=by
  rw[hWf];exact Ja (i:=4) (Ja (i:=3) (Ja (i:=2) (Ja (i:=1) (Ja (i:=0) (J0 I1) (.int .i64 0)) (.string ⟨#[]⟩)) (.slice none 0 0)) (.slice none 0 0)) (.slice none 0 0)
 have hbel:Below w.heap.size w Wf:=by
  rw[hWf];refine(((((((zb2 tyO).trans ((zb2 tyO).mono (by simp))).trans ((J0 R2).mono (by simp <;> omega))).setCell ?_ _).setCell ?_ _).setCell ?_ _).setCell ?_ _).setCell ?_ _ <;> exact Nat.le_refl _
 have hkk:Wf.heap[k]?=some (refO a y):=by
  have:k≠w.heap.size:=by omega
  rw[hWf,Below.heap_setCell _ _ _ _ this,Below.heap_setCell _ _ _ _ this,Below.heap_setCell _ _ _ _ this,Below.heap_setCell _ _ _ _ this,Below.heap_setCell _ _ _ _ this];exact J0 R1
 obtain⟨⟨x0,x1,x2,x3,x4⟩,-⟩:=J8 k5;exact bodyPost_ret (v:=.tuple #[tyZ,refI k]) (by simp[results,Tryz.results41,go_sem,x0,x1,x2,x3,x4]) rfl ⟨_,rfl,hkk,hbel⟩
end Go.Proofs.YtdamlfkieecnjaaGreatDoor
namespace Go.Proofs.YtdamlfkieecnjaaGreatDoor
open Go Go.RowKit Lx
theorem ty_putA {en:Int} {d b k0:Nat} {T:TypeId} {s:RS} {w w3:World} {K:Int} {S:ByteArray} {pn pe pp:Option Addr} {nn cn ne ce np cp:Nat} {t:Ty (d+1)} {o:Obj} (k3:w3.heap[k0]?=some tyO) (hR:RdAt b T en s w3) (hK:Kl b w.heap.size w w3) (hb:b<w.heap.size) (hk0:w.heap.size<=k0) (hF:∀V:World,(∀j,w.heap.size<=j->j≠k0->j<w3.heap.size->V.heap[j]?=w3.heap[j]?)->V.heap[w3.heap.size]?=some o->TyV V d (Jc K S pn pe pp nn cn ne ce np cp) t)
  (W7:World) (e:W7=(((((w3.setCell ⟨k0,0,none⟩ (.int .i64 K)).setCell ⟨k0,1,none⟩ (.string S)).setCell ⟨k0,2,none⟩ (.slice pn nn cn)).setCell ⟨k0,3,none⟩ (.slice pe ne ce)).setCell ⟨k0,4,none⟩ (.slice pp np cp)).alloc o) :
  W7.heap[k0]?=some (.cells #[.int .i64 K,.string S,.slice pn nn cn,.slice pe ne ce,.slice pp np cp] 27)/\RdAt b T en s W7/\Kx b w W7/\∀V:World,(∀j,w.heap.size<=j->j<W7.heap.size->V.heap[j]?=W7.heap[j]?)->TyV V d (Jc K S pn pe pp nn cn ne ce np cp) t:=by
 have hk0':k0<w3.heap.size:=(Array.getElem?_eq_some_iff.1 k3).1;have hbk:b<k0:=by omega
 have k1:=Ja (i:=0) k3 (.int .i64 K);have k2:=Ja (i:=1) k1 (.string S);have k3':=Ja (i:=2) k2 (.slice pn nn cn);have k4:=Ja (i:=3) k3' (.slice pe ne ce);have k5:=Ja (i:=4) k4 (.slice pp np cp);have r1:=(((((hR.put k3 (by decide) hbk 0 (.int .i64 K)).put k1 (by decide) hbk 1 (.string S)).put k2 (by decide) hbk 2 (.slice pn nn cn)).put k3' (by decide) hbk 3 (.slice pe ne ce)).put k4 (by decide) hbk 4 (.slice pp np cp))
 have hbl:=Nat.le_of_lt hb;have r2:=((((hK.setHigh (i:=0) hbl hk0 (.int .i64 K)).setHigh (i:=1) hbl hk0 (.string S)).setHigh (i:=2) hbl hk0 (.slice pn nn cn)).setHigh (i:=3) hbl hk0 (.slice pe ne ce)).setHigh (i:=4) hbl hk0 (.slice pp np cp);obtain⟨W6,e6⟩:∃W6,W6=((((w3.setCell ⟨k0,0,none⟩ (.int .i64 K)).setCell ⟨k0,1,none⟩ (.string S)).setCell ⟨k0,2,none⟩ (.slice pn nn cn)).setCell ⟨k0,3,none⟩ (.slice pe ne ce)).setCell ⟨k0,4,none⟩ (.slice pp np cp):=⟨_,rfl⟩
 have hs:W6.heap.size=w3.heap.size:=by rw[e6];simp
 have hk:∀j,j≠k0->W6.heap[j]?=w3.heap[j]?:=fun j hj=>by rw[e6,Below.heap_setCell _ _ _ _ hj,Below.heap_setCell _ _ _ _ hj,Below.heap_setCell _ _ _ _ hj,Below.heap_setCell _ _ _ _ hj,Below.heap_setCell _ _ _ _ hj]
 rw[<-e6]at k5 r1 r2 e;subst e;have hsz:w.heap.size<=W6.heap.size:=r2.size;have h7:(W6.alloc o).heap.size=W6.heap.size+1:=by simp
 refine⟨(J9 _ _ (by omega)).trans k5,r1.alloc o,r2.alloc hbl hsz o,fun V hV=>hF V (fun j j1 j2 j3=>(hV j j1 (by omega)).trans ((J9 _ _ (by omega)).trans (hk j j2))) ?_⟩;rw[<-hs];exact(hV _ (by omega) (by omega)).trans (J6 _ _)
abbrev tokO (a:Nat) (k:Int) (S:Bs) (n:Int):Obj:=.cells #[.int .i64 (a:Int),.int .i64 k,.string ⟨S.toArray⟩,.int .i64 n] 174
def zcf (b:Nat) (T:TypeId) (en:Int) (s:RS) (w:World) (x:Bool) (depth:Int):Prop:=
 (Calls Tryz.prog 86 #[rp b,.func (.func 87) #[] #[],.int .i64 depth] (w.alloc tyO) fun e w1=>e=.returned (.bool x)/\RdAt b T en (if x=true then s else zbq za2 en s depth) w1/\Kx b w w1/\w1.heap[w.heap.size]?=some tyO)
theorem zd9 {b:Nat} {T:TypeId} {en:Int} {s:RS} {w:World} (h:RdAt b T en s w) (depth:Int):zcf b T en s w (zd4 za2 s depth) depth:=
 (zek b T en s 87 za2 begT_any depth _ (h.alloc tyO)).mono fun _ w1 ⟨e,r1,r2⟩=>by
  have hl:=h.lt;refine⟨e,?_,Kl.on (.of_below (zb2 tyO) (Nat.le_of_lt hl)) r2,(r2.2 _ (by simp) (by omega)).trans (J6 w tyO)⟩
  cases hx:zd4 za2 s depth with
  | false=>simpa using r1
  | true=>
   simp only[zd4,Bool.and_eq_true,decide_eq_true_eq]at hx;have:zbq za2 en s depth=s:=by simp[zbq,hx.1,show ¬64<depth by omega]
   rw[this]at r1;simpa using r1
theorem zep (b:Nat) (T:TypeId) (en:Int) (d:Nat) (s:RS) (depth:Int) (hx:zd4 za2 s depth=false) (w:World) (h:RdAt b T en s w) :
  Calls Tryz.prog 43 #[rp b,.int .i64 depth] w fun e w'=>e=.returned (Jc 0 ⟨#[]⟩ none none none 0 0 0 0 0 0)/\RdAt b T en (zbq za2 en s depth) w'/\Kx b w w'/\∀V:World,(∀j,w.heap.size<=j->j<w'.heap.size->V.heap[j]?=w'.heap[j]?)->TyV V d (Jc 0 ⟨#[]⟩ none none none 0 0 0 0 0 0) (zTy d):=by
 have hl:=h.lt;have HD:=J4 (zd9 h depth);rw[hx]at HD;unfold zcf at HD;clear h hx;go_enter Tryz.func43,Tryz.ntmps43;go_wp2_with (go_at_call 86;refine(J0 HD).mono ?_;clear HD;rintro e w1 ⟨rfl,r1,r2,r3⟩;have m:=J8 r3;obtain⟨⟨z0,z1,z2,z3,z4⟩,zf⟩:=m;have R1:=J4 r1;have R2:=J4 r2;have R3:=J4 r3;clear r1 r2 r3);obtain⟨Wf,hWf⟩:∃Wf:World,Wf=((((w1.setCell ⟨w.heap.size,0,none⟩ (.int .i64 0)).setCell ⟨w.heap.size,1,none⟩ (.string ⟨#[]⟩)).setCell ⟨w.heap.size,2,none⟩ (.slice none 0 0)).setCell ⟨w.heap.size,3,none⟩ (.slice none 0 0)).setCell ⟨w.heap.size,4,none⟩ (.slice none 0 0):=⟨_,rfl⟩
 rw[<-hWf];obtain⟨d1,d2,d3,d4⟩:=zch (wb:=w.alloc tyO) (t:=zTy d) (J0 R3) (J0 R1) (J0 R2) hl (Nat.le_refl _) (by simp) (fun V _=>zTyV V d) Wf hWf;obtain⟨⟨y0,y1,y2,y3,y4⟩,-⟩:=J8 d1;exact bodyPost_ret (v:=Jc 0 ⟨#[]⟩ none none none 0 0 0 0 0 0) (by simp[results,Tryz.results43,go_sem,y0,y1,y2,y3,y4]) rfl ⟨rfl,by simpa using d2,d3,d4⟩
end Go.Proofs.YtdamlfkieecnjaaGreatDoor
namespace Go.Proofs.YtdamlfkieecnjaaGreatDoor
open Go Go.RowKit Lx
theorem readType_name (b:Nat) (T:TypeId) (en:Int) (d:Nat) (s:RS) (depth:Int) (hx:zd4 za2 s depth=true) (a:Nat) (k:Int) (S:Bs) (n:Int) (hpk:J5 s=(a,k,S,n)) (hk:k=2) (w:World) (h:RdAt b T en s w) :
  Calls Tryz.prog 43 #[rp b,.int .i64 depth] w fun e w'=>e=.returned (Jc 4 ⟨S.toArray⟩ none none none 0 0 0 0 0 0)/\RdAt b T en (J7 s) w'/\Kx b w w'/\∀V:World,(∀j,w.heap.size<=j->j<w'.heap.size->V.heap[j]?=w'.heap[j]?)->TyV V d (Jc 4 ⟨S.toArray⟩ none none none 0 0 0 0 0 0) (zaf d 4 S [] [] []):=by
 have hl:=h.lt;have HD:=J4 (zd9 h depth);have TK:=J4 (JP b T en s);rw[hx]at HD;rw[hpk]at TK;unfold zcf at HD;simp only[if_true]at HD;dsimp only[zcx]at TK;clear h hx hpk;subst hk;go_enter Tryz.func43,Tryz.ntmps43;go_upto_region 4 with(first|(go_at_call 86;refine(J0 HD).mono ?_;clear HD;rintro e w1 ⟨rfl,r1,r2,r3⟩;have R1:=J4 r1;have R2:=J4 r2;have R3:=J4 r3;clear r1 r2 r3)|(go_at_call 88;refine(J0 TK _ (J0 R1)).mono ?_;clear TK;rintro e w2 ⟨rfl,q1,q2⟩;have k3:w2.heap[w.heap.size]?=some tyO:=(q2.2 _ (Array.getElem?_eq_some_iff.1 (J0 R3)).1 (by omega)).trans (J0 R3);have hz2:w.heap.size<w2.heap.size:=(Array.getElem?_eq_some_iff.1 k3).1;have Q1:=J4 q1;have Q2:=J4 (Kl.on (J0 R2) q2);have K3:=J4 k3;clear q1 q2 k3))
 obtain⟨W,hW⟩:∃W,W=w2.alloc (tokO a 2 S n):=⟨_,rfl⟩
 obtain⟨bt,hbt⟩:∃g,g=w2.heap.size:=⟨_,rfl⟩
 have k3:W.heap[w.heap.size]?=some tyO:=by rw[hW];exact(J9 _ _ hz2).trans (J0 K3)
 have t3:W.heap[bt]?=some (tokO a 2 S n):=by rw[hW,hbt];exact J6 _ _
 have hzW:w.heap.size<W.heap.size:=(Array.getElem?_eq_some_iff.1 k3).1;have P1:Hid (RdAt b T en (J7 s) W):=by rw[hW];exact(J0 Q1).alloc _
 have P2:Hid (Kl b w.heap.size w W):=by rw[hW];exact(J0 Q2).alloc (Nat.le_of_lt hl) (J0 Q2).size _
 rw[<-hW,<-hbt];obtain⟨⟨z0,z1,z2,z3,z4⟩,zf⟩:=J8 k3;have t0:=(Lib.cell_of_heap t3 0).trans rfl;have t1:=(Lib.cell_of_heap t3 1).trans rfl;have t2:=(Lib.cell_of_heap t3 2).trans rfl;have K4:=J4 k3;clear hW hbt k3 t3 Q1 Q2 K3 hz2;go_wp2;obtain⟨Wf,hWf⟩:∃Wf:World,Wf=((((W.setCell ⟨w.heap.size,0,none⟩ (.int .i64 4)).setCell ⟨w.heap.size,1,none⟩ (.string ⟨S.toArray⟩)).setCell ⟨w.heap.size,2,none⟩ (.slice none 0 0)).setCell ⟨w.heap.size,3,none⟩ (.slice none 0 0)).setCell ⟨w.heap.size,4,none⟩ (.slice none 0 0):=⟨_,rfl⟩
 rw[<-hWf];obtain⟨d1,d2,d3,d4⟩:=zch (wb:=W) (J0 K4) (J0 P1) (J0 P2) hl (Nat.le_refl _) hzW (fun V _=>leafV V d 4 S) Wf hWf;obtain⟨⟨y0,y1,y2,y3,y4⟩,-⟩:=J8 d1;exact bodyPost_ret (v:=Jc 4 ⟨S.toArray⟩ none none none 0 0 0 0 0 0) (by simp[results,Tryz.results43,go_sem,y0,y1,y2,y3,y4]) rfl ⟨rfl,d2,d3,d4⟩
theorem readType_int (b:Nat) (T:TypeId) (en:Int) (d:Nat) (s:RS) (depth:Int) (hx:zd4 za2 s depth=true) (a:Nat) (k:Int) (n:Int) (hpk:J5 s=(a,k,[105,110,116],n)) (hk:¬k=2) (w:World) (h:RdAt b T en s w) :
  Calls Tryz.prog 43 #[rp b,.int .i64 depth] w fun e w'=>e=.returned (Jc 1 ⟨#[]⟩ none none none 0 0 0 0 0 0)/\RdAt b T en (J7 s) w'/\Kx b w w'/\∀V:World,(∀j,w.heap.size<=j->j<w'.heap.size->V.heap[j]?=w'.heap[j]?)->TyV V d (Jc 1 ⟨#[]⟩ none none none 0 0 0 0 0 0) (zaf d 1 [] [] [] []):=by
 have hl:=h.lt;have HD:=J4 (zd9 h depth);have TK:=J4 (JP b T en s);rw[hx]at HD;rw[hpk]at TK;unfold zcf at HD;simp only[if_true]at HD;dsimp only[zcx]at TK;clear h hx hpk;have ek:(k==2)=false:=beq_eq_false_iff_ne.2 hk;go_enter Tryz.func43,Tryz.ntmps43;go_upto_region 4 with(first|(go_at_call 86;refine(J0 HD).mono ?_;clear HD;rintro e w1 ⟨rfl,r1,r2,r3⟩;have R1:=J4 r1;have R2:=J4 r2;have R3:=J4 r3;clear r1 r2 r3)|(go_at_call 88;refine(J0 TK _ (J0 R1)).mono ?_;clear TK;rintro e w2 ⟨rfl,q1,q2⟩;have k3:w2.heap[w.heap.size]?=some tyO:=(q2.2 _ (Array.getElem?_eq_some_iff.1 (J0 R3)).1 (by omega)).trans (J0 R3);have hz2:w.heap.size<w2.heap.size:=(Array.getElem?_eq_some_iff.1 k3).1;have Q1:=J4 q1;have Q2:=J4 (Kl.on (J0 R2) q2);have K3:=J4 k3;clear q1 q2 k3))
 obtain⟨W,hW⟩:∃W,W=w2.alloc (tokO a k [105,110,116] n):=⟨_,rfl⟩
 obtain⟨bt,hbt⟩:∃g,g=w2.heap.size:=⟨_,rfl⟩
 have k3:W.heap[w.heap.size]?=some tyO:=by rw[hW];exact(J9 _ _ hz2).trans (J0 K3)
 have t3:W.heap[bt]?=some (tokO a k [105,110,116] n):=by rw[hW,hbt];exact J6 _ _
 have hzW:w.heap.size<W.heap.size:=(Array.getElem?_eq_some_iff.1 k3).1;have P1:Hid (RdAt b T en (J7 s) W):=by rw[hW];exact(J0 Q1).alloc _
 have P2:Hid (Kl b w.heap.size w W):=by rw[hW];exact(J0 Q2).alloc (Nat.le_of_lt hl) (J0 Q2).size _
 rw[<-hW,<-hbt];obtain⟨⟨z0,z1,z2,z3,z4⟩,zf⟩:=J8 k3;have t0:=(Lib.cell_of_heap t3 0).trans rfl;have t1:=(Lib.cell_of_heap t3 1).trans rfl;have t2:=(Lib.cell_of_heap t3 2).trans rfl;have K4:=J4 k3;clear hW hbt k3 t3 Q1 Q2 K3 hz2;go_wp2;obtain⟨Wf,hWf⟩:∃Wf:World,Wf=((((W.setCell ⟨w.heap.size,0,none⟩ (.int .i64 1)).setCell ⟨w.heap.size,1,none⟩ (.string ⟨#[]⟩)).setCell ⟨w.heap.size,2,none⟩ (.slice none 0 0)).setCell ⟨w.heap.size,3,none⟩ (.slice none 0 0)).setCell ⟨w.heap.size,4,none⟩ (.slice none 0 0):=⟨_,rfl⟩
 rw[<-hWf];obtain⟨d1,d2,d3,d4⟩:=zch (wb:=W) (J0 K4) (J0 P1) (J0 P2) hl (Nat.le_refl _) hzW (fun V _=>leafV V d 1 []) Wf hWf;obtain⟨⟨y0,y1,y2,y3,y4⟩,-⟩:=J8 d1;exact bodyPost_ret (v:=Jc 1 ⟨#[]⟩ none none none 0 0 0 0 0 0) (by simp[results,Tryz.results43,go_sem,y0,y1,y2,y3,y4]) rfl ⟨rfl,d2,d3,d4⟩
theorem readType_bool (b:Nat) (T:TypeId) (en:Int) (d:Nat) (s:RS) (depth:Int) (hx:zd4 za2 s depth=true) (a:Nat) (k:Int) (n:Int) (hpk:J5 s=(a,k,[98,111,111,108],n)) (hk:¬k=2) (w:World) (h:RdAt b T en s w) :
  Calls Tryz.prog 43 #[rp b,.int .i64 depth] w fun e w'=>e=.returned (Jc 2 ⟨#[]⟩ none none none 0 0 0 0 0 0)/\RdAt b T en (J7 s) w'/\Kx b w w'/\∀V:World,(∀j,w.heap.size<=j->j<w'.heap.size->V.heap[j]?=w'.heap[j]?)->TyV V d (Jc 2 ⟨#[]⟩ none none none 0 0 0 0 0 0) (zaf d 2 [] [] [] []):=by
 have hl:=h.lt;have HD:=J4 (zd9 h depth);have TK:=J4 (JP b T en s);rw[hx]at HD;rw[hpk]at TK;unfold zcf at HD;simp only[if_true]at HD;dsimp only[zcx]at TK;clear h hx hpk;have ek:(k==2)=false:=beq_eq_false_iff_ne.2 hk;go_enter Tryz.func43,Tryz.ntmps43;go_upto_region 4 with(first|(go_at_call 86;refine(J0 HD).mono ?_;clear HD;rintro e w1 ⟨rfl,r1,r2,r3⟩;have R1:=J4 r1;have R2:=J4 r2;have R3:=J4 r3;clear r1 r2 r3)|(go_at_call 88;refine(J0 TK _ (J0 R1)).mono ?_;clear TK;rintro e w2 ⟨rfl,q1,q2⟩;have k3:w2.heap[w.heap.size]?=some tyO:=(q2.2 _ (Array.getElem?_eq_some_iff.1 (J0 R3)).1 (by omega)).trans (J0 R3);have hz2:w.heap.size<w2.heap.size:=(Array.getElem?_eq_some_iff.1 k3).1;have Q1:=J4 q1;have Q2:=J4 (Kl.on (J0 R2) q2);have K3:=J4 k3;clear q1 q2 k3))
 obtain⟨W,hW⟩:∃W,W=w2.alloc (tokO a k [98,111,111,108] n):=⟨_,rfl⟩
 obtain⟨bt,hbt⟩:∃g,g=w2.heap.size:=⟨_,rfl⟩
 have k3:W.heap[w.heap.size]?=some tyO:=by rw[hW];exact(J9 _ _ hz2).trans (J0 K3)
 have t3:W.heap[bt]?=some (tokO a k [98,111,111,108] n):=by rw[hW,hbt];exact J6 _ _
 have hzW:w.heap.size<W.heap.size:=(Array.getElem?_eq_some_iff.1 k3).1;have P1:Hid (RdAt b T en (J7 s) W):=by rw[hW];exact(J0 Q1).alloc _
 have P2:Hid (Kl b w.heap.size w W):=by rw[hW];exact(J0 Q2).alloc (Nat.le_of_lt hl) (J0 Q2).size _
 rw[<-hW,<-hbt];obtain⟨⟨z0,z1,z2,z3,z4⟩,zf⟩:=J8 k3;have t0:=(Lib.cell_of_heap t3 0).trans rfl;have t1:=(Lib.cell_of_heap t3 1).trans rfl;have t2:=(Lib.cell_of_heap t3 2).trans rfl;have K4:=J4 k3;clear hW hbt k3 t3 Q1 Q2 K3 hz2;go_wp2;obtain⟨Wf,hWf⟩:∃Wf:World,Wf=((((W.setCell ⟨w.heap.size,0,none⟩ (.int .i64 2)).setCell ⟨w.heap.size,1,none⟩ (.string ⟨#[]⟩)).setCell ⟨w.heap.size,2,none⟩ (.slice none 0 0)).setCell ⟨w.heap.size,3,none⟩ (.slice none 0 0)).setCell ⟨w.heap.size,4,none⟩ (.slice none 0 0):=⟨_,rfl⟩
 rw[<-hWf];obtain⟨d1,d2,d3,d4⟩:=zch (wb:=W) (J0 K4) (J0 P1) (J0 P2) hl (Nat.le_refl _) hzW (fun V _=>leafV V d 2 []) Wf hWf;obtain⟨⟨y0,y1,y2,y3,y4⟩,-⟩:=J8 d1;exact bodyPost_ret (v:=Jc 2 ⟨#[]⟩ none none none 0 0 0 0 0 0) (by simp[results,Tryz.results43,go_sem,y0,y1,y2,y3,y4]) rfl ⟨rfl,d2,d3,d4⟩
theorem readType_text (b:Nat) (T:TypeId) (en:Int) (d:Nat) (s:RS) (depth:Int) (hx:zd4 za2 s depth=true) (a:Nat) (k:Int) (n:Int) (hpk:J5 s=(a,k,[116,101,120,116],n)) (hk:¬k=2) (w:World) (h:RdAt b T en s w) :
  Calls Tryz.prog 43 #[rp b,.int .i64 depth] w fun e w'=>e=.returned (Jc 3 ⟨#[]⟩ none none none 0 0 0 0 0 0)/\RdAt b T en (J7 s) w'/\Kx b w w'/\∀V:World,(∀j,w.heap.size<=j->j<w'.heap.size->V.heap[j]?=w'.heap[j]?)->TyV V d (Jc 3 ⟨#[]⟩ none none none 0 0 0 0 0 0) (zaf d 3 [] [] [] []):=by
 have hl:=h.lt;have HD:=J4 (zd9 h depth);have TK:=J4 (JP b T en s);rw[hx]at HD;rw[hpk]at TK;unfold zcf at HD;simp only[if_true]at HD;dsimp only[zcx]at TK;clear h hx hpk;have ek:(k==2)=false:=beq_eq_false_iff_ne.2 hk;go_enter Tryz.func43,Tryz.ntmps43;go_upto_region 4 with(first|(go_at_call 86;refine(J0 HD).mono ?_;clear HD;rintro e w1 ⟨rfl,r1,r2,r3⟩;have R1:=J4 r1;have R2:=J4 r2;have R3:=J4 r3;clear r1 r2 r3)|(go_at_call 88;refine(J0 TK _ (J0 R1)).mono ?_;clear TK;rintro e w2 ⟨rfl,q1,q2⟩;have k3:w2.heap[w.heap.size]?=some tyO:=(q2.2 _ (Array.getElem?_eq_some_iff.1 (J0 R3)).1 (by omega)).trans (J0 R3);have hz2:w.heap.size<w2.heap.size:=(Array.getElem?_eq_some_iff.1 k3).1;have Q1:=J4 q1;have Q2:=J4 (Kl.on (J0 R2) q2);have K3:=J4 k3;clear q1 q2 k3))
 obtain⟨W,hW⟩:∃W,W=w2.alloc (tokO a k [116,101,120,116] n):=⟨_,rfl⟩
 obtain⟨bt,hbt⟩:∃g,g=w2.heap.size:=⟨_,rfl⟩
 have k3:W.heap[w.heap.size]?=some tyO:=by rw[hW];exact(J9 _ _ hz2).trans (J0 K3)
 have t3:W.heap[bt]?=some (tokO a k [116,101,120,116] n):=by rw[hW,hbt];exact J6 _ _
 have hzW:w.heap.size<W.heap.size:=(Array.getElem?_eq_some_iff.1 k3).1;have P1:Hid (RdAt b T en (J7 s) W):=by rw[hW];exact(J0 Q1).alloc _
 have P2:Hid (Kl b w.heap.size w W):=by rw[hW];exact(J0 Q2).alloc (Nat.le_of_lt hl) (J0 Q2).size _
 rw[<-hW,<-hbt];obtain⟨⟨z0,z1,z2,z3,z4⟩,zf⟩:=J8 k3;have t0:=(Lib.cell_of_heap t3 0).trans rfl;have t1:=(Lib.cell_of_heap t3 1).trans rfl;have t2:=(Lib.cell_of_heap t3 2).trans rfl;have K4:=J4 k3;clear hW hbt k3 t3 Q1 Q2 K3 hz2;go_wp2;obtain⟨Wf,hWf⟩:∃Wf:World,Wf=((((W.setCell ⟨w.heap.size,0,none⟩ (.int .i64 3)).setCell ⟨w.heap.size,1,none⟩ (.string ⟨#[]⟩)).setCell ⟨w.heap.size,2,none⟩ (.slice none 0 0)).setCell ⟨w.heap.size,3,none⟩ (.slice none 0 0)).setCell ⟨w.heap.size,4,none⟩ (.slice none 0 0):=⟨_,rfl⟩
 rw[<-hWf];obtain⟨d1,d2,d3,d4⟩:=zch (wb:=W) (J0 K4) (J0 P1) (J0 P2) hl (Nat.le_refl _) hzW (fun V _=>leafV V d 3 []) Wf hWf;obtain⟨⟨y0,y1,y2,y3,y4⟩,-⟩:=J8 d1;exact bodyPost_ret (v:=Jc 3 ⟨#[]⟩ none none none 0 0 0 0 0 0) (by simp[results,Tryz.results43,go_sem,y0,y1,y2,y3,y4]) rfl ⟨rfl,d2,d3,d4⟩
end Go.Proofs.YtdamlfkieecnjaaGreatDoor
namespace Go.Proofs.YtdamlfkieecnjaaGreatDoor
open Go Go.RowKit Lx
theorem readType_ptr (b:Nat) (T:TypeId) (en:Int) (d:Nat) (s:RS) (depth:Int) (h0:0<=depth) (h1:depth<=100) (hx:zd4 za2 s depth=true) (a:Nat) (k:Int) (n:Int) (hpk:J5 s=(a,k,[42],n)) (hk:¬k=2) (q:RS->Ty (d+1)×RS) (hQ:za1 b T en 43 #[rp b,.int .i64 (depth+1)] d q) (w:World) (h:RdAt b T en s w) :
  Calls Tryz.prog 43 #[rp b,.int .i64 depth] w fun e w'=>∃(K:Int) (S:ByteArray) (pn pe pp:Option Addr) (nn cn ne ce np cp:Nat),e=.returned (Jc K S pn pe pp nn cn ne ce np cp)/\RdAt b T en (q (J7 s)).2 w'/\Kx b w w'/\∀V:World,(∀j,w.heap.size<=j->j<w'.heap.size->V.heap[j]?=w'.heap[j]?)->TyV V (d+1) (Jc K S pn pe pp nn cn ne ce np cp) (zaf (d+1) 5 [] [] [] [(q (J7 s)).1]):=by
 have hl:=h.lt;have HD:=J4 (zd9 h depth);have TK:=J4 (JP b T en s);have HQ:=J4 hQ;rw[hx]at HD;rw[hpk]at TK;unfold zcf at HD;simp only[if_true]at HD;dsimp only[zcx]at TK;have ek:(k==2)=false:=beq_eq_false_iff_ne.2 hk;clear h hx hpk hQ;go_enter Tryz.func43,Tryz.ntmps43;go_upto_region 4 with(first|(go_at_call 86;refine(J0 HD).mono ?_;clear HD;rintro e w1 ⟨rfl,r1,r2,r3⟩;have R1:=J4 r1;have R2:=J4 r2;have R3:=J4 r3;clear r1 r2 r3)|(go_at_call 88;refine(J0 TK _ (J0 R1)).mono ?_;clear TK;rintro e w2 ⟨rfl,q1,q2⟩;have k3:w2.heap[w.heap.size]?=some tyO:=(q2.2 _ (Array.getElem?_eq_some_iff.1 (J0 R3)).1 (by omega)).trans (J0 R3);have hz2:w.heap.size<w2.heap.size:=(Array.getElem?_eq_some_iff.1 k3).1;have Q1:=J4 q1;have Q2:=J4 (Kl.on (J0 R2) q2);have K3:=J4 k3;clear q1 q2 k3))
 obtain⟨W,hW⟩:∃W,W=w2.alloc (tokO a k [42] n):=⟨_,rfl⟩
 obtain⟨bt,hbt⟩:∃g,g=w2.heap.size:=⟨_,rfl⟩
 have k3:W.heap[w.heap.size]?=some tyO:=by rw[hW];exact(J9 _ _ hz2).trans (J0 K3)
 have t3:W.heap[bt]?=some (tokO a k [42] n):=by rw[hW,hbt];exact J6 _ _
 have hzW:w.heap.size<W.heap.size:=(Array.getElem?_eq_some_iff.1 k3).1;have P1:Hid (RdAt b T en (J7 s) W):=by rw[hW];exact(J0 Q1).alloc _
 have P2:Hid (Kl b w.heap.size w W):=by rw[hW];exact(J0 Q2).alloc (Nat.le_of_lt hl) (J0 Q2).size _
 rw[<-hW,<-hbt];obtain⟨⟨z0,z1,z2,z3,z4⟩,zf⟩:=J8 k3;have t0:=(Lib.cell_of_heap t3 0).trans rfl;have t1:=(Lib.cell_of_heap t3 1).trans rfl;have t2:=(Lib.cell_of_heap t3 2).trans rfl;have K4:=J4 k3;clear hW hbt k3 t3 Q1 Q2 K3 hz2;go_wp2_with (go_at_call 43;refine(J0 HQ _ _ (J0 P1)).mono ?_;clear HQ z0 z1 z2 z3 z4 zf t0 t1 t2;rintro e w3 ⟨K,S,pn,pe,pp,nn,cn,ne,ce,np,cp,rfl,q1,q2,q3⟩;have k3:w3.heap[w.heap.size]?=some tyO:=(q2.2 _ hzW (by omega)).trans (J0 K4);have hz3:w.heap.size<w3.heap.size:=(Array.getElem?_eq_some_iff.1 k3).1;have m:=J8 k3;obtain⟨⟨z0,z1,z2,z3,z4⟩,zf⟩:=m;have Q1:=J4 q1;have Q2:=J4 (Kl.on (J0 P2) q2);have Q3:=J4 q3;have K5:=J4 k3;clear q1 q2 q3 k3);obtain⟨Wf,hWf⟩:∃Wf:World,Wf=(((((w3.setCell ⟨w.heap.size,0,none⟩ (.int .i64 5)).setCell ⟨w.heap.size,1,none⟩ (.string ⟨#[]⟩)).setCell ⟨w.heap.size,2,none⟩ (.slice none 0 0)).setCell ⟨w.heap.size,3,none⟩ (.slice none 0 0)).setCell ⟨w.heap.size,4,none⟩ (.slice (some ⟨w3.heap.size,0,none⟩) 1 1)).alloc (.cells #[.int .i64 K,.string S,.slice pn nn cn,.slice pe ne ce,.slice pp np cp] 27):=⟨_,rfl⟩
 rw[<-hWf];obtain⟨d1,d2,d3,d4⟩:=ty_putA (t:=zaf (d+1) 5 [] [] [] [(q (J7 s)).1]) (J0 K5) (J0 Q1) (J0 Q2) hl (Nat.le_refl _) (fun V v1 v2=>ptrV v2 (J0 Q3 V fun j j1 j2=>v1 j (by omega) (by omega) j2)) Wf hWf;obtain⟨⟨y0,y1,y2,y3,y4⟩,-⟩:=J8 d1;exact bodyPost_ret (v:=Jc 5 ⟨#[]⟩ none none (some ⟨w3.heap.size,0,none⟩) 0 0 0 0 1 1) (by simp[results,Tryz.results43,go_sem,y0,y1,y2,y3,y4]) rfl ⟨_,_,_,_,_,_,_,_,_,_,_,rfl,d2,d3,d4⟩
theorem readType_rec (b:Nat) (T:TypeId) (en:Int) (d:Nat) (s:RS) (depth:Int) (hx:zd4 za2 s depth=true) (a:Nat) (k:Int) (n:Int) (hpk:J5 s=(a,k,[123],n)) (hk:¬k=2) (q:RS->Ty (d+1)×RS) (hQ:za1 b T en 89 #[rp b,.int .i64 depth] d q) (w:World) (h:RdAt b T en s w) :
  Calls Tryz.prog 43 #[rp b,.int .i64 depth] w fun e w'=>∃(K:Int) (S:ByteArray) (pn pe pp:Option Addr) (nn cn ne ce np cp:Nat),e=.returned (Jc K S pn pe pp nn cn ne ce np cp)/\RdAt b T en (q (J7 s)).2 w'/\Kx b w w'/\∀V:World,(∀j,w.heap.size<=j->j<w'.heap.size->V.heap[j]?=w'.heap[j]?)->TyV V d (Jc K S pn pe pp nn cn ne ce np cp) (q (J7 s)).1:=by
 have hl:=h.lt;have HD:=J4 (zd9 h depth);have TK:=J4 (JP b T en s);have HQ:=J4 hQ;rw[hx]at HD;rw[hpk]at TK;unfold zcf at HD;simp only[if_true]at HD;dsimp only[zcx]at TK;have ek:(k==2)=false:=beq_eq_false_iff_ne.2 hk;clear h hx hpk hQ;go_enter Tryz.func43,Tryz.ntmps43;go_upto_region 4 with(first|(go_at_call 86;refine(J0 HD).mono ?_;clear HD;rintro e w1 ⟨rfl,r1,r2,r3⟩;have R1:=J4 r1;have R2:=J4 r2;have R3:=J4 r3;clear r1 r2 r3)|(go_at_call 88;refine(J0 TK _ (J0 R1)).mono ?_;clear TK;rintro e w2 ⟨rfl,q1,q2⟩;have k3:w2.heap[w.heap.size]?=some tyO:=(q2.2 _ (Array.getElem?_eq_some_iff.1 (J0 R3)).1 (by omega)).trans (J0 R3);have hz2:w.heap.size<w2.heap.size:=(Array.getElem?_eq_some_iff.1 k3).1;have Q1:=J4 q1;have Q2:=J4 (Kl.on (J0 R2) q2);have K3:=J4 k3;clear q1 q2 k3))
 obtain⟨W,hW⟩:∃W,W=w2.alloc (tokO a k [123] n):=⟨_,rfl⟩
 obtain⟨bt,hbt⟩:∃g,g=w2.heap.size:=⟨_,rfl⟩
 have k3:W.heap[w.heap.size]?=some tyO:=by rw[hW];exact(J9 _ _ hz2).trans (J0 K3)
 have t3:W.heap[bt]?=some (tokO a k [123] n):=by rw[hW,hbt];exact J6 _ _
 have hzW:w.heap.size<W.heap.size:=(Array.getElem?_eq_some_iff.1 k3).1;have P1:Hid (RdAt b T en (J7 s) W):=by rw[hW];exact(J0 Q1).alloc _
 have P2:Hid (Kl b w.heap.size w W):=by rw[hW];exact(J0 Q2).alloc (Nat.le_of_lt hl) (J0 Q2).size _
 rw[<-hW,<-hbt];obtain⟨⟨z0,z1,z2,z3,z4⟩,zf⟩:=J8 k3;have t0:=(Lib.cell_of_heap t3 0).trans rfl;have t1:=(Lib.cell_of_heap t3 1).trans rfl;have t2:=(Lib.cell_of_heap t3 2).trans rfl;have K4:=J4 k3;clear hW hbt k3 t3 Q1 Q2 K3 hz2;go_wp2_with (go_at_call 89;refine(J0 HQ _ _ (J0 P1)).mono ?_;clear HQ z0 z1 z2 z3 z4 zf t0 t1 t2;rintro e w3 ⟨K,S,pn,pe,pp,nn,cn,ne,ce,np,cp,rfl,q1,q2,q3⟩;have k3:w3.heap[w.heap.size]?=some tyO:=(q2.2 _ hzW (by omega)).trans (J0 K4);have m:=J8 k3;obtain⟨⟨z0,z1,z2,z3,z4⟩,zf⟩:=m;have Q1:=J4 q1;have Q2:=J4 (Kl.on (J0 P2) q2);have Q3:=J4 q3;have K5:=J4 k3;clear q1 q2 q3 k3);obtain⟨Wf,hWf⟩:∃Wf:World,Wf=((((w3.setCell ⟨w.heap.size,0,none⟩ (.int .i64 K)).setCell ⟨w.heap.size,1,none⟩ (.string S)).setCell ⟨w.heap.size,2,none⟩ (.slice pn nn cn)).setCell ⟨w.heap.size,3,none⟩ (.slice pe ne ce)).setCell ⟨w.heap.size,4,none⟩ (.slice pp np cp):=⟨_,rfl⟩
 rw[<-hWf];obtain⟨d1,d2,d3,d4⟩:=zch (J0 K5) (J0 Q1) (J0 Q2) hl (Nat.le_refl _) hzW (J0 Q3) Wf hWf;obtain⟨⟨y0,y1,y2,y3,y4⟩,-⟩:=J8 d1;exact bodyPost_ret (v:=Jc K S pn pe pp nn cn ne ce np cp) (by simp[results,Tryz.results43,go_sem,y0,y1,y2,y3,y4]) rfl ⟨K,S,pn,pe,pp,nn,cn,ne,ce,np,cp,rfl,d2,d3,d4⟩
theorem readType_fn (b:Nat) (T:TypeId) (en:Int) (d:Nat) (s:RS) (depth:Int) (hx:zd4 za2 s depth=true) (a:Nat) (k:Int) (n:Int) (hpk:J5 s=(a,k,[102,110],n)) (hk:¬k=2) (q:RS->Ty (d+1)×RS) (hQ:za1 b T en 90 #[rp b,.int .i64 depth] d q) (w:World) (h:RdAt b T en s w) :
  Calls Tryz.prog 43 #[rp b,.int .i64 depth] w fun e w'=>∃(K:Int) (S:ByteArray) (pn pe pp:Option Addr) (nn cn ne ce np cp:Nat),e=.returned (Jc K S pn pe pp nn cn ne ce np cp)/\RdAt b T en (q (J7 s)).2 w'/\Kx b w w'/\∀V:World,(∀j,w.heap.size<=j->j<w'.heap.size->V.heap[j]?=w'.heap[j]?)->TyV V d (Jc K S pn pe pp nn cn ne ce np cp) (q (J7 s)).1:=by
 have hl:=h.lt;have HD:=J4 (zd9 h depth);have TK:=J4 (JP b T en s);have HQ:=J4 hQ;rw[hx]at HD;rw[hpk]at TK;unfold zcf at HD;simp only[if_true]at HD;dsimp only[zcx]at TK;have ek:(k==2)=false:=beq_eq_false_iff_ne.2 hk;clear h hx hpk hQ;go_enter Tryz.func43,Tryz.ntmps43;go_upto_region 4 with(first|(go_at_call 86;refine(J0 HD).mono ?_;clear HD;rintro e w1 ⟨rfl,r1,r2,r3⟩;have R1:=J4 r1;have R2:=J4 r2;have R3:=J4 r3;clear r1 r2 r3)|(go_at_call 88;refine(J0 TK _ (J0 R1)).mono ?_;clear TK;rintro e w2 ⟨rfl,q1,q2⟩;have k3:w2.heap[w.heap.size]?=some tyO:=(q2.2 _ (Array.getElem?_eq_some_iff.1 (J0 R3)).1 (by omega)).trans (J0 R3);have hz2:w.heap.size<w2.heap.size:=(Array.getElem?_eq_some_iff.1 k3).1;have Q1:=J4 q1;have Q2:=J4 (Kl.on (J0 R2) q2);have K3:=J4 k3;clear q1 q2 k3))
 obtain⟨W,hW⟩:∃W,W=w2.alloc (tokO a k [102,110] n):=⟨_,rfl⟩
 obtain⟨bt,hbt⟩:∃g,g=w2.heap.size:=⟨_,rfl⟩
 have k3:W.heap[w.heap.size]?=some tyO:=by rw[hW];exact(J9 _ _ hz2).trans (J0 K3)
 have t3:W.heap[bt]?=some (tokO a k [102,110] n):=by rw[hW,hbt];exact J6 _ _
 have hzW:w.heap.size<W.heap.size:=(Array.getElem?_eq_some_iff.1 k3).1;have P1:Hid (RdAt b T en (J7 s) W):=by rw[hW];exact(J0 Q1).alloc _
 have P2:Hid (Kl b w.heap.size w W):=by rw[hW];exact(J0 Q2).alloc (Nat.le_of_lt hl) (J0 Q2).size _
 rw[<-hW,<-hbt];obtain⟨⟨z0,z1,z2,z3,z4⟩,zf⟩:=J8 k3;have t0:=(Lib.cell_of_heap t3 0).trans rfl;have t1:=(Lib.cell_of_heap t3 1).trans rfl;have t2:=(Lib.cell_of_heap t3 2).trans rfl;have K4:=J4 k3;clear hW hbt k3 t3 Q1 Q2 K3 hz2;go_wp2_with (go_at_call 90;refine(J0 HQ _ _ (J0 P1)).mono ?_;clear HQ z0 z1 z2 z3 z4 zf t0 t1 t2;rintro e w3 ⟨K,S,pn,pe,pp,nn,cn,ne,ce,np,cp,rfl,q1,q2,q3⟩;have k3:w3.heap[w.heap.size]?=some tyO:=(q2.2 _ hzW (by omega)).trans (J0 K4);have m:=J8 k3;obtain⟨⟨z0,z1,z2,z3,z4⟩,zf⟩:=m;have Q1:=J4 q1;have Q2:=J4 (Kl.on (J0 P2) q2);have Q3:=J4 q3;have K5:=J4 k3;clear q1 q2 q3 k3);obtain⟨Wf,hWf⟩:∃Wf:World,Wf=((((w3.setCell ⟨w.heap.size,0,none⟩ (.int .i64 K)).setCell ⟨w.heap.size,1,none⟩ (.string S)).setCell ⟨w.heap.size,2,none⟩ (.slice pn nn cn)).setCell ⟨w.heap.size,3,none⟩ (.slice pe ne ce)).setCell ⟨w.heap.size,4,none⟩ (.slice pp np cp):=⟨_,rfl⟩
 rw[<-hWf];obtain⟨d1,d2,d3,d4⟩:=zch (J0 K5) (J0 Q1) (J0 Q2) hl (Nat.le_refl _) hzW (J0 Q3) Wf hWf;obtain⟨⟨y0,y1,y2,y3,y4⟩,-⟩:=J8 d1;exact bodyPost_ret (v:=Jc K S pn pe pp nn cn ne ce np cp) (by simp[results,Tryz.results43,go_sem,y0,y1,y2,y3,y4]) rfl ⟨K,S,pn,pe,pp,nn,cn,ne,ce,np,cp,rfl,d2,d3,d4⟩
theorem readType_ifa (b:Nat) (T:TypeId) (en:Int) (d:Nat) (s:RS) (depth:Int) (hx:zd4 za2 s depth=true) (a:Nat) (k:Int) (n:Int) (hpk:J5 s=(a,k,[105,110,116,101,114,102,97,99,101],n)) (hk:¬k=2) (q:RS->Ty (d+1)×RS) (hQ:za1 b T en 91 #[rp b,.int .i64 depth] d q) (w:World) (h:RdAt b T en s w) :
  Calls Tryz.prog 43 #[rp b,.int .i64 depth] w fun e w'=>∃(K:Int) (S:ByteArray) (pn pe pp:Option Addr) (nn cn ne ce np cp:Nat),e=.returned (Jc K S pn pe pp nn cn ne ce np cp)/\RdAt b T en (q (J7 s)).2 w'/\Kx b w w'/\∀V:World,(∀j,w.heap.size<=j->j<w'.heap.size->V.heap[j]?=w'.heap[j]?)->TyV V d (Jc K S pn pe pp nn cn ne ce np cp) (q (J7 s)).1:=by
 have hl:=h.lt;have HD:=J4 (zd9 h depth);have TK:=J4 (JP b T en s);have HQ:=J4 hQ;rw[hx]at HD;rw[hpk]at TK;unfold zcf at HD;simp only[if_true]at HD;dsimp only[zcx]at TK;have ek:(k==2)=false:=beq_eq_false_iff_ne.2 hk;clear h hx hpk hQ;go_enter Tryz.func43,Tryz.ntmps43;go_upto_region 4 with(first|(go_at_call 86;refine(J0 HD).mono ?_;clear HD;rintro e w1 ⟨rfl,r1,r2,r3⟩;have R1:=J4 r1;have R2:=J4 r2;have R3:=J4 r3;clear r1 r2 r3)|(go_at_call 88;refine(J0 TK _ (J0 R1)).mono ?_;clear TK;rintro e w2 ⟨rfl,q1,q2⟩;have k3:w2.heap[w.heap.size]?=some tyO:=(q2.2 _ (Array.getElem?_eq_some_iff.1 (J0 R3)).1 (by omega)).trans (J0 R3);have hz2:w.heap.size<w2.heap.size:=(Array.getElem?_eq_some_iff.1 k3).1;have Q1:=J4 q1;have Q2:=J4 (Kl.on (J0 R2) q2);have K3:=J4 k3;clear q1 q2 k3))
 obtain⟨W,hW⟩:∃W,W=w2.alloc (tokO a k [105,110,116,101,114,102,97,99,101] n):=⟨_,rfl⟩
 obtain⟨bt,hbt⟩:∃g,g=w2.heap.size:=⟨_,rfl⟩
 have k3:W.heap[w.heap.size]?=some tyO:=by rw[hW];exact(J9 _ _ hz2).trans (J0 K3)
 have t3:W.heap[bt]?=some (tokO a k [105,110,116,101,114,102,97,99,101] n):=by rw[hW,hbt];exact J6 _ _
 have hzW:w.heap.size<W.heap.size:=(Array.getElem?_eq_some_iff.1 k3).1;have P1:Hid (RdAt b T en (J7 s) W):=by rw[hW];exact(J0 Q1).alloc _
 have P2:Hid (Kl b w.heap.size w W):=by rw[hW];exact(J0 Q2).alloc (Nat.le_of_lt hl) (J0 Q2).size _
 rw[<-hW,<-hbt];obtain⟨⟨z0,z1,z2,z3,z4⟩,zf⟩:=J8 k3;have t0:=(Lib.cell_of_heap t3 0).trans rfl;have t1:=(Lib.cell_of_heap t3 1).trans rfl;have t2:=(Lib.cell_of_heap t3 2).trans rfl;have K4:=J4 k3;clear hW hbt k3 t3 Q1 Q2 K3 hz2;go_wp2_with (go_at_call 91;refine(J0 HQ _ _ (J0 P1)).mono ?_;clear HQ z0 z1 z2 z3 z4 zf t0 t1 t2;rintro e w3 ⟨K,S,pn,pe,pp,nn,cn,ne,ce,np,cp,rfl,q1,q2,q3⟩;have k3:w3.heap[w.heap.size]?=some tyO:=(q2.2 _ hzW (by omega)).trans (J0 K4);have m:=J8 k3;obtain⟨⟨z0,z1,z2,z3,z4⟩,zf⟩:=m;have Q1:=J4 q1;have Q2:=J4 (Kl.on (J0 P2) q2);have Q3:=J4 q3;have K5:=J4 k3;clear q1 q2 q3 k3);obtain⟨Wf,hWf⟩:∃Wf:World,Wf=((((w3.setCell ⟨w.heap.size,0,none⟩ (.int .i64 K)).setCell ⟨w.heap.size,1,none⟩ (.string S)).setCell ⟨w.heap.size,2,none⟩ (.slice pn nn cn)).setCell ⟨w.heap.size,3,none⟩ (.slice pe ne ce)).setCell ⟨w.heap.size,4,none⟩ (.slice pp np cp):=⟨_,rfl⟩
 rw[<-hWf];obtain⟨d1,d2,d3,d4⟩:=zch (J0 K5) (J0 Q1) (J0 Q2) hl (Nat.le_refl _) hzW (J0 Q3) Wf hWf;obtain⟨⟨y0,y1,y2,y3,y4⟩,-⟩:=J8 d1;exact bodyPost_ret (v:=Jc K S pn pe pp nn cn ne ce np cp) (by simp[results,Tryz.results43,go_sem,y0,y1,y2,y3,y4]) rfl ⟨K,S,pn,pe,pp,nn,cn,ne,ce,np,cp,rfl,d2,d3,d4⟩
end Go.Proofs.YtdamlfkieecnjaaGreatDoor
