import Derived.Orders
import Derived.StillTail
import Derived.Test.YtdamlfkieecnjaaGreatDoorQPTypes

namespace Go.Proofs.YtdamlfkieecnjaaGreatDoor
open Go Go.RowKit
def zbz (listed:Array Bool):Nat:=listed.toList.count false
theorem left_set {listed:Array Bool} {i:Nat} (hi:i<listed.size) (h:listed.getD i true=false):zbz (listed.setIfInBounds i true)+1=zbz listed:=by
 have hl:i<listed.toList.length:=by simpa using hi
 have hv:listed.toList[i]=false:=by
  have:listed[i]=false:=by simpa[Array.getD,hi]using h
  simpa using this
 have hc:0<listed.toList.count false:=List.count_pos_iff.2 (hv ▸ List.getElem_mem hl);rw[zbz,zbz,Array.toList_setIfInBounds,List.count_set hl,hv];rw[if_pos (show(false==false)=true from rfl),if_neg (show ¬(true==false)=true by decide)];omega
theorem ready_none {md:Region.Mode} {ops:Array Oper} {listed:Array Bool} (hs:listed.size=ops.size) (h:zbz listed=0):Region.ready md ops listed=[]:=by
 rw[Region.ready,List.filter_eq_nil_iff];intro i hi;have hi':i<listed.size:=by rw[hs];exact List.mem_range.1 hi
 have hv:listed[i]=true:=by
  rcases hb:listed[i]with _|_
  ·exfalso;have:0<listed.toList.count false:=List.count_pos_iff.2 (by rw[<-hb];simp);unfold zbz at h;omega
  ·rfl
 simp[Array.getD,hi',hv]
theorem wpAny_inv {P:Program} {md:Region.Mode} {ops:Array Oper} {Q:Exit->Act->World->Prop} (I:Array Bool->Act->World->Prop) (hsz:∀listed a w,I listed a w->listed.size=ops.size)
  (step:∀listed a w i,I listed a w->i∈Region.ready md ops listed->wpOp P ops Q i (I (listed.setIfInBounds i true)) a w)
  (fin:∀listed a w,I listed a w->Region.ready md ops listed=[]->Q .normal a w) :
  ∀(fuel:Nat) (listed:Array Bool) (a:Act) (w:World),I listed a w->zbz listed<=fuel->wpAny P md ops Q fuel listed a w
 | 0,listed,a,w,h,hl=>by
  have hr:=ready_none (md:=md) (hsz _ _ _ h) (Nat.le_zero.1 hl);exact⟨hr,fin _ _ _ h hr⟩
 | fuel+1,listed,a,w,h,hl=>by
  refine⟨fun hr=>fin _ _ _ h hr,fun i hi=>?_⟩;have hi':=List.mem_filter.1 hi;have hlt:i<listed.size:=by rw[hsz _ _ _ h];exact List.mem_range.1 hi'.1
  have hno:listed.getD i true=false:=by
   have:=hi'.2;simp only[Bool.and_eq_true,Bool.not_eq_true']at this;exact this.1
  have:=left_set hlt hno;exact wpOp_mono (fun a' w' h'=>wpAny_inv I hsz step fin fuel _ a' w' h' (by omega)) (step _ _ _ _ h hi)
def backB (ops:Array Oper):Bool:=(List.range ops.size).all fun i=>((ops[i]?).map fun o=>o.after.all fun e=>!Region.binds .any e||decide (e.on<i)).getD true
theorem all_done {ops:Array Oper} {listed:Array Bool} (h:backB ops=true) (hs:listed.size=ops.size) (hr:Region.ready .any ops listed=[]):∀i,i<ops.size->listed.getD i false=true:=by
 intro i
 induction i using Nat.strongRecOn with
 | ind i ih=>
  intro hi;rcases hb:listed.getD i false with _|_
  ·exfalso;have hno:i∉Region.ready .any ops listed:=by rw[hr];simp
   apply hno;rw[Region.ready,List.mem_filter];refine⟨List.mem_range.2 hi,?_⟩;have h1:=List.all_eq_true.1 h i (List.mem_range.2 hi);have ho:ops[i]?=some ops[i]:=by simp[hi]
   rw[ho]at h1 ⊢;simp only[Option.map_some,Option.getD_some]at h1 ⊢;have hi2:i<listed.size:=by rw[hs];exact hi
   have hT:listed.getD i true=false:=by
    simp only[Array.getD,hi2,dite_true]at hb ⊢;exact hb
   rw[hT];simp only[Bool.not_false,Bool.true_and];rw[Array.all_eq_true'];intro e he;have h2:=Array.all_eq_true'.1 h1 e he;rcases hbd:Region.binds .any e with _|_
   ·rfl
   ·rw[hbd]at h2;simp only[Bool.not_true,Bool.false_or,decide_eq_true_eq]at h2;simpa using ih e.on h2 (by omega)
  ·rfl
def EachOp (R:Nat->Oper->Prop):List Oper->Nat->Prop
 | [],_=>True
 | o::r,n=>R n o/\EachOp R r (n+1)
theorem each_of {R:Nat->Oper->Prop}:∀(l:List Oper) (n:Nat),EachOp R l n->∀i o,l[i]?=some o->R (n+i) o
 | [],_,_,i,o,h=>by simp at h
 | x::r,n,h,0,o,ho=>by
  obtain rfl:x=o:=by simpa using ho
  exact h.1
 | x::r,n,h,i+1,o,ho=>by
  have:=each_of r (n+1) h.2 i o (by simpa using ho);rwa[show n+(i+1)=n+1+i by omega]
section
variable {o:Oper} {a:Act} {w:World} {K:Act->World->Prop} {Q:Exit->Act->World->Prop}
end
def updF (f:Nat->Option Value) (i:Nat) (v:Value):Nat->Option Value:=fun j=>if j=i then some v else f j
theorem upd_same (f:Nat->Option Value) (i:Nat) (v:Value):updF f i v i=some v:=if_pos rfl
end Go.Proofs.YtdamlfkieecnjaaGreatDoor
namespace Go.Proofs.YtdamlfkieecnjaaGreatDoor
open Go Go.RowKit
theorem region_inv {P:Program} {id:Nat} {ops:Array Oper} {Q:Exit->Act->World->Prop} {a0:Act} {w:World} (hm:P.follows .mixedOrders=true) (hk:backB ops=true) (I:(Nat->Bool)->Act->World->Prop) (h0:I (fun _=>false) a0 w.drew)
  (step:∀(i:Nat) (o:Oper) (S:Nat->Bool) (a:Act) (u:World),ops[i]?=some o->S i=false->(∀j,Region.waitsFor .any ops i j=true->S j=true)->I S a u->Region.wanted o (yielded ops a.tmps)=true/\o.wp P a u (fun a' u'=>I (fun j=>decide (j=i)||S j) a' u') Q)
  (fin:∀(S:Nat->Bool) (a:Act) (u:World),(∀i,i<ops.size->S i=true)->I S a u->Q .normal a u):(Code.region id ops true).wp P Q a0 w:=by
 refine wp_region_any hm (wpAny_inv (fun listed a w=>listed.size=ops.size/\∃S:Nat->Bool,(∀i,S i=listed.getD i false)/\I S a w) (fun _ _ _ h=>h.1) ?_ ?_ ops.size (Array.replicate ops.size false) a0 _ ⟨by simp,fun _=>false,fun i=>by simp[Array.getD],h0⟩ ?_)
 ·rintro listed a u i ⟨hsz,S,hS,hI⟩ hi;have hi':=List.mem_filter.1 hi;have hlt:i<ops.size:=List.mem_range.1 hi'.1;have ho:ops[i]?=some ops[i]:=by simp[hlt]
  have hp:=hi'.2;rw[ho]at hp;simp only[Bool.and_eq_true,Option.map_some,Option.getD_some]at hp;have hil:i<listed.size:=by rw[hsz];exact hlt
  have hno:listed.getD i false=false:=by
   have:=hp.1;simp only[Bool.not_eq_true']at this;simp only[Array.getD,hil,dite_true]at this ⊢;exact this
  have hw:∀j,Region.waitsFor .any ops i j=true->S j=true:=fun j hwait=>by
   obtain⟨oi,hoi,e,he,hb,rfl⟩:=Region.waitsFor_spec hwait;rw[ho]at hoi;obtain rfl:=Option.some.inj hoi;have:=Array.all_eq_true'.1 hp.2 e he;rw[hb]at this;rw[hS];simpa using this
  obtain⟨h1,h2⟩:=step i ops[i] S a u ho ((hS i).trans hno) hw hI;rw[wpOp,ho];simp only;rw[if_pos h1];refine .inl (Oper.wp_mono ?_ h2);intro a' w' hI';refine⟨by simp[hsz],_,fun j=>?_,hI'⟩;by_cases hji:j=i
  ·subst hji;simp[Array.getD,hil]
  ·have he:(listed.setIfInBounds i true).getD j false=listed.getD j false:=by
    simp only[Array.getD_eq_getD_getElem?];rw[Array.getElem?_setIfInBounds_ne (Ne.symm hji)]
   simp[hji,hS,he]
 ·rintro listed a u ⟨hsz,S,hS,hI⟩ hr;exact fin S a u (fun i hi=>(hS i).trans (all_done hk hsz hr i hi)) hI
 ·simp[zbz]
theorem region_steps {P:Program} {id:Nat} {ops:Array Oper} {Q:Exit->Act->World->Prop} {a0:Act} {w:World} (hm:P.follows .mixedOrders=true) (hk:backB ops=true) (I:(Nat->Bool)->Act->World->Prop) (h0:I (fun _=>false) a0 w.drew)
  (each:EachOp (fun i o=>∀(S:Nat->Bool) (a:Act) (u:World),S i=false->(∀j,Region.waitsFor .any ops i j=true->S j=true)->I S a u->Region.wanted o (yielded ops a.tmps)=true/\o.wp P a u (fun a' u'=>I (fun j=>decide (j=i)||S j) a' u') Q) ops.toList 0)
  (fin:∀(S:Nat->Bool) (a:Act) (u:World),(∀i,i<ops.size->S i=true)->I S a u->Q .normal a u):(Code.region id ops true).wp P Q a0 w:=
 region_inv hm hk I h0 (fun i o S a u ho hS hw hI=>by
  have hg:=each_of _ _ each i o (by simpa using ho);rw[Nat.zero_add]at hg;exact hg S a u hS hw hI) fin
end Go.Proofs.YtdamlfkieecnjaaGreatDoor
