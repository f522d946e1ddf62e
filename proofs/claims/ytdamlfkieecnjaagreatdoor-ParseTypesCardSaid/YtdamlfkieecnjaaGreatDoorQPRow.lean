import Derived.Test.YtdamlfkieecnjaaGreatDoorQPMem
import Derived.Deep.AppendLies

namespace Go.Proofs.YtdamlfkieecnjaaGreatDoor
open Go Go.RowKit Lx
theorem add_at (g k:Nat):(⟨g,0,none⟩:Addr).add k=⟨g,k,none⟩:=by
 by_cases h:k=0
 ·subst h;rfl
 ·simp[Addr.add,h]
def Fx (lo:Nat) (M:Nat->Prop) (W:World) (P:World->Prop):Prop:=∀V:World,(∀k,lo<=k->k<W.heap.size->¬M k->V.heap[k]?=W.heap[k]?)->P V
theorem Fx.step {lo:Nat} {M M2:Nat->Prop} {W W2:World} {P:World->Prop} (h:Fx lo M W P) (hs:W.heap.size<=W2.heap.size) (hk:∀k,lo<=k->k<W.heap.size->¬M k->W2.heap[k]?=W.heap[k]?) (hM:∀k,k<W.heap.size->M2 k->M k):Fx lo M2 W2 P:=
 fun V hV=>h V fun k h1 h2 h3=>(hV k h1 (by omega) (fun h=>h3 (hM k h2 h))).trans (hk k h1 h2 h3)
def Mu (vs:List Value) (k:Nat):Prop:=∃v∈vs,v.ownBlock=some k
def Row {α:Type} (T:TypeId) (n:Nat) (Q:World->List Value->α->Prop) (lo:Nat) (M:Nat->Prop) (W:World) (v:Value) (xs:List α):Prop:=
 ∃es:List (List Value),es.length=xs.length/\(∀e∈es,e.length=n)/\W.ownsRow lo T n v xs.length es.flatten/\∀(j:Nat) (u:List Value) (x:α),es[j]?=some u->xs[j]?=some x->Fx lo M W (fun V=>Q V u x)
theorem flat_row {n:Nat}:∀(es:List (List Value)) (j i:Nat) (u:List Value) (c:Value),(∀e∈es,e.length=n)->es[j]?=some u->u[i]?=some c->es.flatten[j*n+i]?=some c
 | [],j,i,u,c,_,h,_=>by simp at h
 | x::r,0,i,u,c,hl,h,hc=>by
  simp at h;subst h;rw[List.flatten_cons,show 0*n+i=i by omega,List.getElem?_append_left (List.getElem?_eq_some_iff.1 hc).1];exact hc
 | x::r,j+1,i,u,c,hl,h,hc=>by
  have ih:=flat_row r j i u c (fun e he=>hl e (by simp[he])) (by simpa using h) hc;have hx:x.length=n:=hl x (by simp);rw[List.flatten_cons,List.getElem?_append_right (by rw[hx,Nat.succ_mul];omega),show(j+1)*n+i-x.length=j*n+i by rw[hx,Nat.succ_mul];omega];exact ih
section
variable {α:Type} {T:TypeId} {n:Nat} {Q:World->List Value->α->Prop} {lo:Nat} {M:Nat->Prop} {W:World} {v:Value} {xs:List α}
theorem Row.nil (lo:Nat) (M:Nat->Prop) (W:World):Row T n Q lo M W (.slice none 0 0) []:=⟨[],rfl,by simp,World.ownsRow_nil _ _ _ _,fun j u t h=>by simp at h⟩
theorem Row.lt (h:Row T n Q lo M W v xs):∀k,v.ownBlock=some k->lo<=k/\k<W.heap.size:=by
 obtain⟨_,_,_,ho,_⟩:=h;exact ho.lt
theorem Row.slice (h:Row T n Q lo M W v xs):∃p c,v=.slice p xs.length c/\xs.length<=c/\c<=9223372036854775807:=by
 obtain⟨_,_,_,ho,_⟩:=h;rcases ho.2 with⟨rfl,h0⟩|⟨g,cap,cur,rfl,_,_,hc,hm,_⟩
 ·exact⟨none,0,by rw[h0],by omega,by omega⟩
 ·unfold maxLen at hm;exact⟨_,_,rfl,hc,hm⟩
theorem Row.keep {M2:Nat->Prop} {W2:World} (h:Row T n Q lo M W v xs) (hs:W.heap.size<=W2.heap.size) (hk:∀k,lo<=k->k<W.heap.size->¬M k->W2.heap[k]?=W.heap[k]?) (ho:∀g,v.ownBlock=some g->W2.heap[g]?=W.heap[g]?) (hM:∀k,k<W.heap.size->M2 k->M k):Row T n Q lo M2 W2 v xs:=by
 obtain⟨es,h1,h2,h3,h4⟩:=h;refine⟨es,h1,h2,⟨h3.1,?_⟩,fun j u x hj hx=>(h4 j u x hj hx).step hs hk hM⟩;rcases h3.2 with h0|⟨g,cap,cur,e,hb,hg,r⟩
 ·exact .inl h0
 ·exact .inr ⟨g,cap,cur,e,hb,(ho g (by rw[e];rfl)).trans hg,r⟩
theorem Row.still {W2:World} (h:Row T n Q lo M W v xs) (hs:W.heap.size<=W2.heap.size) (hk:∀k,lo<=k->k<W.heap.size->W2.heap[k]?=W.heap[k]?):Row T n Q lo M W2 v xs:=
 h.keep hs (fun k h1 h2 _=>hk k h1 h2) (fun g hg=>hk g (h.lt g hg).1 (h.lt g hg).2) (fun _ _ h=>h)
theorem Row.cells (h:Row T n Q lo M W v xs) {V:World} (hV:∀j,lo<=j->j<W.heap.size->V.heap[j]?=W.heap[j]?):∃p c,v=.slice p xs.length c/\xs.length<=c/\∀j x,xs[j]?=some x->∃(g:Nat) (u:List Value),p=some ⟨g,0,none⟩/\Q V u x/\∀i c,u[i]?=some c->V.cell? ⟨g,0+j*n+i,none⟩=some c:=by
 obtain⟨es,hl,hn,ho,he⟩:=h;rcases ho.2 with⟨rfl,h0⟩|⟨g,cap,cur,rfl,hb,hg,hc,_⟩
 ·exact⟨none,0,by rw[h0],by omega,fun j x hx=>by rw[List.eq_nil_of_length_eq_zero h0]at hx;simp at hx⟩
 ·refine⟨_,_,rfl,hc,fun j x hx=>?_⟩;have hj:j<xs.length:=(List.getElem?_eq_some_iff.1 hx).1;have hu:es[j]?=some es[j]:=by simp
  have hlt:=(Array.getElem?_eq_some_iff.1 hg).1;refine⟨g,es[j],rfl,he j _ x hu hx V fun i h1 h2 _=>hV i h1 h2,fun i c hc=>?_⟩;rw[World.cell?_of_block (hV g hb hlt),Nat.zero_add];have:=ho.cells (g:=g) rfl _ _ (flat_row es j i _ c hn hu hc);rwa[add_at]at this
theorem Row.append {b B:Nat} {Ts:TypeId} {z:Value} {by1:Nat} {wr W2 W3:World} {x:α} {u:List Value} (ht:Tryz.prog.underlying Ts=some (.slice T)) (hi0:(Tryz.prog.info? T).map (fun i=>(i.zero,i.size,i.bytes))=some (some z,n,by1)) (hz:z.cells.size=n) (hn0:0<n) (hb1:by1<=1000)
  (h:Row T n Q lo M wr v xs) (hlo:lo<=wr.heap.size) (hM:∀k,M k->k<wr.heap.size) (hv:∀k,v.ownBlock=some k->M k) (hb:Kx b wr W2) (hbl:b<lo) (h3:Below W2.heap.size W2 W3) (hB:W3.heap[B]?=some (.cells u.toArray T))
  (hu:∀V:World,(∀j,wr.heap.size<=j->j<W2.heap.size->V.heap[j]?=W2.heap[j]?)->Q V u x) (h1:∀c∈u,c.oneCell'=true) (hun:u.length=n) (hl:xs.length<=1000000) :
  ∃(g cap:Nat) (W4:World),(Builtin.append_ #[Ts,Ts] Ts #[v,.slice (some ⟨B,0,none⟩) 1 1]).run Tryz.prog W3=.ok (.slice (some ⟨g,0,none⟩) (xs.length+1) cap) W4 /\
   (∀M':Nat->Prop,(∀k,M' k->k<W3.heap.size->M k)->Row T n Q lo M' W4 (.slice (some ⟨g,0,none⟩) (xs.length+1) cap) (xs++[x]))/\W3.heap.size<=W4.heap.size/\(∀j,j<W3.heap.size->some j≠v.ownBlock->W4.heap[j]?=W3.heap[j]?)/\(v.ownBlock=some g∨g=W3.heap.size)/\Below lo W3 W4:=by
 obtain⟨es,hel,hen,ho,he⟩:=h;obtain⟨i0,hi,hz0,hz1,hz2⟩:∃i0,Tryz.prog.info? T=some i0/\i0.zero=some z/\i0.size=n/\i0.bytes=by1:=by
  cases hq:Tryz.prog.info? T with
  | none=>rw[hq]at hi0;simp at hi0
  | some i=>rw[hq]at hi0;simp at hi0;exact⟨i,rfl,hi0.1,hi0.2.1,hi0.2.2⟩
 have hs2:=hb.size;have hs3:=h3.size;have hown:∀k,v.ownBlock=some k->lo<=k/\k<wr.heap.size:=ho.lt
 have hk3:∀k,lo<=k->k<wr.heap.size->W3.heap[k]?=wr.heap[k]?:=fun k k1 k2=>(h3.block k (by omega)).trans (hb.2 k k2 (by omega))
 have ho3:W3.ownsRow lo T n v xs.length es.flatten:=by
  refine⟨ho.1,?_⟩;rcases ho.2 with h0|⟨g,cap,cur,e,hb,hg,r⟩
  ·exact .inl h0
  ·exact .inr ⟨g,cap,cur,e,hb,(hk3 g hb (hown g (by rw[e];rfl)).2).trans hg,r⟩
 obtain⟨g,cap,W4,hr,how,hgr,hgg,_⟩:=run_append_lies (P:=Tryz.prog) W3 Ts Ts lo T i0 z n by1 ht hi hz0 hz1 hz2 hz hn0 v xs.length _
  ho3 ⟨B,0,none⟩ 1 1 u (by omega)
  (fun j x hx=>by rw[add_at,Lib.cell_of_heap hB,<-hx];simp) h1 (by omega) (by unfold maxLen;omega) (Nat.le_trans (Nat.mul_le_mul (show xs.length+1<=1000001 by omega) hb1) (by decide)) (by omega) W3.heap.size rfl
 have hs4:W3.heap.size<=W4.heap.size:=hgr.size;have hkeep:∀j,j<W3.heap.size->some j≠v.ownBlock->W4.heap[j]?=W3.heap[j]?:=fun j hj hne=>hgr.block j hj hne
 refine⟨g,cap,W4,hr,fun M' hM'=>⟨es++[u],by simp[hel],fun e he=>?_,by simpa using how,fun j y s hj hs=>?_⟩,hs4,hkeep,hgg,⟨hgr.os,hgr.tape,hgr.output,hgr.size,fun k hk=>hkeep k (by omega) (fun e=>by have:=(hown k e.symm).1;omega)⟩⟩
 ·rcases List.mem_append.1 he with h|h
  ·exact hen e h
  ·rw[List.mem_singleton.1 h];exact hun
 ·rcases Nat.lt_or_ge j xs.length with hlt|hge
  ·rw[List.getElem?_append_left (by omega)]at hj;rw[List.getElem?_append_left hlt]at hs;exact(he j y s hj hs).step (by omega) (fun k k1 k2 k3=>(hkeep k (by omega) (fun e=>k3 (hv k e.symm))).trans (hk3 k k1 k2)) (fun k k1 k2=>hM' k k2 (by omega))
  ·rw[List.getElem?_append_right (by omega)]at hj;rw[List.getElem?_append_right hge]at hs;have ej:j-xs.length=0:=by
    rcases Nat.eq_zero_or_pos (j-xs.length)with e|e
    ·exact e
    ·rw[List.getElem?_eq_none (by simp;omega)]at hs;cases hs
   rw[ej]at hs;rw[hel,ej]at hj;simp at hj hs;subst hj hs;intro V hV;refine hu V fun k h2 h4=>?_
   rw[hV k (by omega) (by omega) (fun hm=>by have:=hM k (hM' k hm (by omega));omega),hkeep k (by omega) (fun e=>by have:=(hown k e.symm).2;omega),h3.block k h4]
end
end Go.Proofs.YtdamlfkieecnjaaGreatDoor
