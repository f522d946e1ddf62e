import Derived.Test.YtdcbglnhhbmpgaaGreatDoorQLexA
import Derived.Laws.StructEq
import Derived.RegionTactic
import Derived.Maps.OwnSet
set_option maxHeartbeats 2000000
set_option maxRecDepth 100000
namespace Go.Proofs.YtdcbglnhhbmpgaaGreatDoor
open Go Go.RowKit Lx
def Ty:Nat->Type
 | 0=>Empty
 | d+1=>Int×Bs×List Bs×List Bool×List (Ty d)
def nodes:(d:Nat)->List (Ty d)->Nat
 | 0,_=>0
 | _+1,[]=>0
 | d+1,t::r=>(if t.1=4 then 0 else 1)+nodes d t.2.2.2.2+nodes (d+1) r
def many:(d:Nat)->List (Ty d)->Nat
 | 0,_=>0
 | _+1,[]=>0
 | d+1,t::r=>1+many d t.2.2.2.2+many (d+1) r
def deep:(d:Nat)->List (Ty d)->Nat
 | 0,_=>0
 | _+1,[]=>0
 | d+1,t::r=>max (1+deep d t.2.2.2.2) (deep (d+1) r)
theorem zgl:∀(d:Nat) (c:List (Ty d)),nodes d c<=many d c
 | 0,_=>by simp[nodes]
 | _+1,[]=>by simp[nodes]
 | d+1,t::r=>by
  have g:=zgl d t.2.2.2.2;have h:=zgl (d+1) r;rw[nodes,many]
  split <;> omega
theorem zir:∀(d:Nat) (c:List (Ty d)),deep d c<=many d c
 | 0,_=>by simp[deep]
 | _+1,[]=>by simp[deep]
 | d+1,t::r=>by
  have g:=zir d t.2.2.2.2;have h:=zir (d+1) r;rw[deep,many];omega
theorem zbh:∀(d:Nat) (c:List (Ty d)),c.length<=many d c
 | 0,[]=>by simp
 | 0,t::_=>nomatch t
 | _+1,[]=>by simp
 | d+1,t::r=>by
  have g:=zbh (d+1) r;rw[many,Yk];omega
theorem zju:∀(d:Nat) (a b:List (Ty d)),nodes d (a++b)=nodes d a+nodes d b
 | 0,_,_=>by simp[nodes]
 | _+1,[],_=>by simp[nodes]
 | d+1,t::r,b=>by
  rw[YD,nodes,nodes,zju (d+1) r b];omega
theorem zhl:∀(d:Nat) (a b:List (Ty d)),many d (a++b)=many d a+many d b
 | 0,_,_=>by simp[many]
 | _+1,[],_=>by simp[many]
 | d+1,t::r,b=>by
  rw[YD,many,many,zhl (d+1) r b];omega
theorem zkv:∀(d:Nat) (a b:List (Ty d)),deep d (a++b)=max (deep d a) (deep d b)
 | 0,_,_=>by simp[deep]
 | _+1,[],_=>by simp[deep]
 | d+1,t::r,b=>by
  rw[YD,deep,deep,zkv (d+1) r b];omega
def SRow (W:Zw) (v:Value) (h:List Bs):Prop:=
 ∃(p:Zo) (c:Nat),v=.slice p h.length c/\∀j t,h[j]?=some t->∃g o,p=some ⟨g,o,none⟩/\W.cell? ⟨g,o+j,none⟩=some (.string ⟨t.toArray⟩)
def BRow (W:Zw) (v:Value) (bs:List Bool):Prop:=
 ∃(p:Zo) (c:Nat),v=.slice p bs.length c/\∀j t,bs[j]?=some t->∃g o,p=some ⟨g,o,none⟩/\W.cell? ⟨g,o+j,none⟩=some (.bool t)
def TyRow (W:Zw):(d:Nat)->Value->List (Ty d)->Prop
 | 0,v,_=>∃(p:Zo) (c:Nat),v=.slice p 0 c
 | d+1,v,h=>∃(p:Zo) (c:Nat),v=.slice p h.length c/\∀j t,h[j]?=some t->∃(g o:Nat) (vn ve vp:Value),p=some ⟨g,o,none⟩ /\
   W.cell? ⟨g,o+j*5,none⟩=some (Zi t.1)/\W.cell? ⟨g,o+j*5+1,none⟩=some (.string ⟨t.2.1.toArray⟩) /\
   W.cell? ⟨g,o+j*5+2,none⟩=some vn/\W.cell? ⟨g,o+j*5+3,none⟩=some ve/\W.cell? ⟨g,o+j*5+4,none⟩=some vp /\
   SRow W vn t.2.2.1/\BRow W ve t.2.2.2.1/\TyRow W d vp t.2.2.2.2
theorem J2 {w:Zw} {b o:Nat} {v:Value} (h:w.cell? ⟨b,o,none⟩=some v):b<w.heap.size:=by
 rcases YW b w.heap.size with c | c
 ·exact c
 ·simp[World.cell?,Array.getElem?_eq_none c]at h
theorem SRow.below {w w':Zw} {v:Value} {r:List Bs} (h:SRow w v r) (s:ZB w w'):SRow w' v r:=by
 obtain⟨p,c,rfl,hp⟩:=h;refine⟨p,c,rfl,fun j t u=>?_⟩;obtain⟨g,o,rfl,a0⟩:=hp j t u;exact⟨g,o,rfl,(s.cell (p:=⟨g,_,none⟩) (J2 a0)).trans a0⟩
theorem BRow.below {w w':Zw} {v:Value} {r:List Bool} (h:BRow w v r) (s:ZB w w'):BRow w' v r:=by
 obtain⟨p,c,rfl,hp⟩:=h;refine⟨p,c,rfl,fun j t u=>?_⟩;obtain⟨g,o,rfl,a0⟩:=hp j t u;exact⟨g,o,rfl,(s.cell (p:=⟨g,_,none⟩) (J2 a0)).trans a0⟩
theorem TyRow.below {w w':Zw} (r:ZB w w'):∀(d:Nat) {v:Value} {s:List (Ty d)},TyRow w d v s->TyRow w' d v s
 | 0,_,_,h=>h
 | d+1,v,s,h=>by
  obtain⟨p,c,rfl,hp⟩:=h;refine⟨p,c,rfl,fun j t u=>?_⟩;obtain⟨g,o,vn,ve,vp,rfl,a0,x,a2,a3,a4,G,I,J⟩:=hp j t u;have L:=J2 a0;exact⟨g,o,vn,ve,vp,rfl,Zq r a0,Zq r x,Zq r a2,Zq r a3,Zq r a4,G.below r,I.below r,TyRow.below r d J⟩
theorem TyRow.slice {w:Zw}:∀{d:Nat} {v:Value} {g:List (Ty d)},TyRow w d v g->∃(p:Zo) (c:Nat),v=.slice p g.length c
 | 0,_,[],h=>h
 | 0,_,t::_,_=>nomatch t
 | _+1,_,_,⟨p,c,e,_⟩=>⟨p,c,e⟩
open Go Go.RowKit Go.Maps Lx
def keyB (s:Bs):Lit:=.string s
def setB (c:List Bs):DataW Unit:=setOf (.agg []) (c.map keyB)
theorem keyB_lit (s:Bs):WideAt.IsKeyLit (keyB s):=by simp[WideAt.IsKeyLit,keyB]
theorem keys_lit (c:List Bs):∀x∈c.map keyB,WideAt.IsKeyLit x:=by
 intro x g;obtain⟨s,_,rfl⟩:=YF.1 g;exact keyB_lit s
theorem zmv (c:List Bs) (s:Bs):setB (c++[s])=(setB c).put (keyB s) (.agg []):=by
 rw[setB,Yj,Yf,YG,setOf_snoc];rfl
theorem zk2 (c:List Bs) (s:Bs):has (setB c) (keyB s)=true↔s∈c:=by
 rw[setB,has_setOf _ _ _ (keys_lit c),List.any_eq_true]
 constructor
 ·rintro⟨x,g,he⟩;obtain⟨t,j,rfl⟩:=YF.1 g;by_cases h:t=s
  ·exact h ▸ j
  ·rw[sameKey_ne (fun e=>h (by simpa[keyB]using e))]at he
   cases he
 ·intro h;exact⟨keyB s,YF.2 ⟨s,h,rfl⟩,WideAt.sameKey_self (keyB_lit s)⟩
theorem setB_size_snoc (c:List Bs) (s:Bs):Maps.size (setB (c++[s]))=if s∈c then Maps.size (setB c)else Maps.size (setB c)+1:=by
 have g:Tidy (setB c):=tidy_setOf _ _ (keys_lit c);rw[zmv,size_put g];by_cases h:s∈c
 ·rw[Ye h,Ye ((zk2 c s).2 h)]
 ·rw[Y7 h,Y7 (fun e=>h ((zk2 c s).1 e))]
theorem setB_size:∀(n:Nat) (c:List Bs),c.length=n->(Maps.size (setB c)=c.length↔c.Nodup)/\Maps.size (setB c)<=c.length
 | 0,c,h=>by
  obtain rfl:=List.length_eq_zero_iff.1 h;exact⟨by simp[setB,setOf,Maps.size],by simp[setB,setOf,Maps.size]⟩
 | n+1,c,h=>by
  rcases List.eq_nil_or_concat c with rfl|⟨r,s,rfl⟩
  ·simp at h
  ·rw[List.concat_eq_append]at h ⊢;have j:r.length=n:=by simpa using h
   obtain⟨i1,i2⟩:=setB_size n r j;rw[setB_size_snoc];by_cases hm:s∈r
   ·rw[Ye hm];refine⟨⟨fun e=>?_,fun e=>?_⟩,?_⟩
    ·simp at e;omega
    ·rw[List.nodup_append]at e;exact absurd rfl (e.2.2 s hm s (by simp))
    ·simp;omega
   ·rw[Y7 hm];refine⟨⟨fun e=>?_,fun e=>?_⟩,?_⟩
    ·rw[List.nodup_append];refine⟨i1.1 (by simp at e;omega),by simp,fun a t b g=>?_⟩;rw[Xg]at g;rintro rfl;exact hm (g ▸ t)
    ·rw[List.nodup_append]at e;have:=i1.2 e.1;simp;omega
    ·simp;omega
def fnsB:(d:Nat)->List (Ty d)->Bool
 | 0,_=>true
 | _+1,c=>c.all fun t=>t.1==7
theorem fns_drop {d:Nat} {c:List (Ty (d+1))} {k:Nat} (h:k<c.length):fnsB (d+1) (c.drop k)=((c[k].1==7)&&fnsB (d+1) (c.drop (k+1))):=by
 rw[Yt h,fnsB,fnsB,YL]
theorem functions_any (d:Nat) (v:Value) (h:List (Ty d)) (w:Zw) (t:TyRow w d v h) (hm:h.length<=1000000) :
  ZC 122 #[v] w (.bool (fnsB d h)):=by
 cases d with
 | zero=>
  obtain⟨p,c,rfl⟩:=t;go_enter Tryz.func122,Tryz.ntmps122;go_wp2
  go_loopw [7] (fun i wr=>i=Zi 0/\wr=w) (fun _ _=>0)
  case atStart=>exact⟨rfl,rfl⟩
  case round=>
   obtain⟨rfl,rfl⟩:=hrel;go_wp2;go_ret;exact⟨by simp[fnsB],Zr⟩
 | succ d=>
  obtain⟨p,c,rfl,hp⟩:=t;have M:=J3 hp;clear hp;go_enter Tryz.func122,Tryz.ntmps122;go_wp2
  go_loopw [7] (fun i wr=>∃k:Nat,i=Zi k/\k<=h.length/\ZH (fnsB (d+1) h=fnsB (d+1) (h.drop k))/\ZB w wr) (fun i _=>h.length-(intOf i).toNat)
  case atStart=>exact⟨0,rfl,by omega,rfl,Zr⟩
  case round=>
   obtain⟨k,rfl,Y,r,j⟩:=hrel;by_cases u:k<h.length
   ·obtain⟨g,o,vn,ve,vp,rfl,a0,x,a2,a3,a4,U,V,G⟩:=M k h[k] (by simp[u]);have Z:(k:Int)<(h.length:Int):=by omega
    obtain⟨pn,cn,rfl,_⟩:=U;obtain⟨pe,ce,rfl,_⟩:=V;obtain⟨pp,cp,rfl⟩:=G.slice;have hg:=J2 a0;have b0:=Zq j a0;have b1:=Zq j x;have b2:=Zq j a2;have b3:=Zq j a3;have b4:=Zq j a4;have I:=J3 j;have J:=J3 (fns_drop u);have L:=j.size;clear a0 x a2 a3 a4 G j;by_cases s:h[k].1=7
    ·rw[s]at b0;go_wp2;go_roundw
     case rel=>exact⟨k+1,by go_num,by omega,(by rw[J0 r,J0 J,s];rfl),I.alloc L _⟩
     case measure=>simp[intOf];omega
    ·go_wp2;go_ret;exact⟨by rw[J0 r,J0 J,Y3.mpr s];rfl,I.alloc L _⟩
   ·go_wp2;go_ret;exact⟨by rw[J0 r,Yg (by omega)];rfl,j⟩
theorem nodes_take {d:Nat} {c:List (Ty (d+1))} {k:Nat} (h:k<c.length):nodes (d+1) (c.take (k+1))=nodes (d+1) (c.take k)+(if c[k].1=4 then 0 else 1)+nodes d c[k].2.2.2.2:=by
 rw[Yq h,zju,nodes,nodes];omega
theorem many_at {d:Nat} {c:List (Ty (d+1))} {k:Nat} (h:k<c.length):many (d+1) (c.take k)+1+many d c[k].2.2.2.2<=many (d+1) c:=by
 have e:many (d+1) c=many (d+1) (c.take (k+1))+many (d+1) (c.drop (k+1)):=by rw[<-zhl,Xl]
 rw[e,Yq h,zhl,many,many];omega
theorem Nodes_any:∀(d:Nat) (v:Value) (h:List (Ty d)) (w:Zw),TyRow w d v h->many d h<=1000000 ->
  ZC 20 #[v] w (Zi (nodes d h:Nat))
 | 0,v,h,w,r,_=>by
  obtain⟨p,c,rfl⟩:=r;go_enter Tryz.func20,Tryz.ntmps20;go_wp2
  go_loopw [3,8] (fun n i wr=>n=Zi 0/\i=Zi 0/\wr=w) (fun _ _ _=>0)
  case atStart=>exact⟨rfl,rfl,rfl⟩
  case round=>
   obtain⟨rfl,rfl,rfl⟩:=hrel;go_wp2;go_ret;exact⟨by simp[nodes],Zr⟩
 | d+1,v,h,w,r,hm=>by
  have HV:=J3 r;obtain⟨p,c,rfl,hp⟩:=r;have Y:=J3 hp;have hlen:=zbh _ h;clear hp;go_enter Tryz.func20,Tryz.ntmps20;go_wp2
  go_loopw [3,8] (fun n i wr=>∃k m:Nat,i=Zi k/\k<=h.length/\n=Zi m/\ZH (m=nodes (d+1) (h.take k))/\ZB w wr) (fun _ i _=>h.length-(intOf i).toNat)
  case atStart=>exact⟨0,0,rfl,by omega,rfl,by show _=_;simp[nodes],Zr⟩
  case round=>
   obtain⟨k,m,rfl,hk,rfl,s,j⟩:=hrel;by_cases G:k<h.length
   ·obtain⟨g,o,vn,ve,vp,rfl,a0,U,a2,a3,a4,Z,r2,I⟩:=Y k h[k] (by simp[G]);have aa:(k:Int)<(h.length:Int):=by omega
    obtain⟨pn,cn,rfl,_⟩:=Z;obtain⟨pe,ce,rfl,_⟩:=r2;obtain⟨pp,cp,rfl⟩:=I.slice;have hg:=J2 a0;have b0:=Zq j a0;have b1:=Zq j U;have b2:=Zq j a2;have b3:=Zq j a3;have b4:=Zq j a4;have t:=J3 j;have J:=J3 (many_at G);have V:=J3 (nodes_take G);have ab:m<=1000000:=by have:=J0 s;have:=zgl _ (h.take k);have:=J0 J;omega
    have ac:nodes d h[k].2.2.2.2<=1000000:=by have:=zgl _ h[k].2.2.2.2;have:=J0 J;omega
    have u:=j.size;obtain⟨z,hz⟩:=Ze (nodes d h[k].2.2.2.2)
    have x:ZH (∀W,ZB w W->ZC 20 #[.slice pp h[k].2.2.2.2.length cp] W (Zi (z:Nat))):=fun W hW=>by
     rw[hz];exact Nodes_any d _ _ W (TyRow.below hW d I) (by have:=J0 J;omega)
    clear a0 U a2 a3 a4 I j;have ad:=b0;by_cases L:h[k].1=4
    ·rw[L]at b0;go_wp2_with (go_at_call 20;refine(x _ (t.alloc u _)).mono ?_;clear x;rintro e w1 ⟨rfl,M⟩);go_roundw
     case rel=>exact⟨k+1,m+z,by go_num,by omega,by go_num,(by have:=J0 V;rw[Ye L]at this;rw[J0 s,hz];show _=_;omega),(t.alloc u _).trans (M.mono (by simp;omega))⟩
     case measure=>simp[intOf];omega
    ·go_wp2_with (go_at_call 20;refine(x _ (t.alloc u _)).mono ?_;clear x;rintro e w1 ⟨rfl,M⟩);go_roundw
     case rel=>exact⟨k+1,m+1+z,by go_num,by omega,by go_num,(by have:=J0 V;rw[Y7 L]at this;rw[J0 s,hz];show _=_;omega),(t.alloc u _).trans (M.mono (by simp;omega))⟩
     case measure=>simp[intOf];omega
   ·go_wp2;go_ret;exact⟨by rw[J0 s,YS (by omega)];rfl,j⟩
theorem deep_take {d:Nat} {c:List (Ty (d+1))} {k:Nat} (h:k<c.length):deep (d+1) (c.take (k+1))=max (deep (d+1) (c.take k)) (1+deep d c[k].2.2.2.2):=by
 rw[Yq h,zkv,deep,deep];omega
theorem zky:∀(d:Nat) (v:Value) (h:List (Ty d)) (w:Zw),TyRow w d v h->many d h<=1000000 ->
  ZC 23 #[v] w (Zi (deep d h:Nat))
 | 0,v,h,w,r,_=>by
  obtain⟨p,c,rfl⟩:=r;go_enter Tryz.func23,Tryz.ntmps23;go_wp2
  go_loopw [3,8] (fun n i wr=>n=Zi 0/\i=Zi 0/\wr=w) (fun _ _ _=>0)
  case atStart=>exact⟨rfl,rfl,rfl⟩
  case round=>
   obtain⟨rfl,rfl,rfl⟩:=hrel;go_wp2;go_ret;exact⟨by simp[deep],Zr⟩
 | d+1,v,h,w,r,hm=>by
  have HV:=J3 r;obtain⟨p,c,rfl,hp⟩:=r;have M:=J3 hp;have hlen:=zbh _ h;clear hp;go_enter Tryz.func23,Tryz.ntmps23;go_wp2
  go_loopw [3,8] (fun n i wr=>∃k m:Nat,i=Zi k/\k<=h.length/\n=Zi m/\ZH (m=deep (d+1) (h.take k))/\ZB w wr) (fun _ i _=>h.length-(intOf i).toNat)
  case atStart=>exact⟨0,0,rfl,by omega,rfl,by show _=_;simp[deep],Zr⟩
  case round=>
   obtain⟨k,m,rfl,hk,rfl,s,j⟩:=hrel;by_cases t:k<h.length
   ·obtain⟨g,o,vn,ve,vp,rfl,a0,G,a2,a3,a4,U,V,u⟩:=M k h[k] (by simp[t]);have ab:(k:Int)<(h.length:Int):=by omega
    obtain⟨pn,cn,rfl,_⟩:=U;obtain⟨pe,ce,rfl,_⟩:=V;obtain⟨pp,cp,rfl⟩:=u.slice;have hg:=J2 a0;have b0:=Zq j a0;have b1:=Zq j G;have b2:=Zq j a2;have b3:=Zq j a3;have b4:=Zq j a4;have I:=J3 j;have x:=J3 (many_at t);have Y:=J3 (deep_take t);have ac:m<=1000000:=by have:=J0 s;have:=zir _ (h.take k);have:=J0 x;omega
    have ad:deep d h[k].2.2.2.2<=1000000:=by have:=zir _ h[k].2.2.2.2;have:=J0 x;omega
    have J:=j.size;obtain⟨z,hz⟩:=Ze (deep d h[k].2.2.2.2)
    have L:ZH (∀W,ZB w W->ZC 23 #[.slice pp h[k].2.2.2.2.length cp] W (Zi (z:Nat))):=fun W Z=>by
     rw[hz];exact zky d _ _ W (TyRow.below Z d u) (by have:=J0 x;omega)
    clear a0 G a2 a3 a4 u j;go_wp2_with (go_at_call 23;refine(L _ (I.alloc J _)).mono ?_;clear L;rintro e w1 ⟨rfl,aa⟩);go_roundw
    case rel=>exact⟨k+1,max m (1+deep d h[k].2.2.2.2),by go_num,by omega,(by congr 1;omega),(by have:=J0 Y;rw[J0 s];show _=_;omega),(I.alloc J _).trans (aa.mono (by simp;omega))⟩
    case measure=>simp[intOf];omega
   ·go_wp2;go_ret;exact⟨by rw[J0 s,YS (by omega)];rfl,j⟩
end Go.Proofs.YtdcbglnhhbmpgaaGreatDoor
