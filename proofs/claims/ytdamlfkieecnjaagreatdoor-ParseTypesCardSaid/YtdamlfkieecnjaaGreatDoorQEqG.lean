import Derived.Test.YtdamlfkieecnjaaGreatDoorQKeepG
import Derived.Lib.SlicesS
set_option maxHeartbeats 4000000
set_option maxRecDepth 100000
namespace Go.Proofs.YtdamlfkieecnjaaGreatDoor
open Go Go.RowKit Lx
theorem zc4 {α:Type} {a b:List α} {k:Nat} (ha:k<a.length) (hb:k<b.length) (h:a.take k=b.take k) (e:a[k]=b[k]):a.take (k+1)=b.take (k+1):=by
 rw[List.take_succ_eq_append_getElem ha,List.take_succ_eq_append_getElem hb,h,e]
theorem bs_ne {a b:Bs} (h:a≠b):((⟨a.toArray⟩:ByteArray).toList==(⟨b.toArray⟩:ByteArray).toList)=false:=
 (Lib.bytes_beq_false_iff _ _).2 fun e=>h (by injection e with e;simpa using e)
theorem Texts_any (v u:Value) (a b:List Bs) (w:World) (hl:a.length<=140737488351232) (hv:SRow w v a) (hu:SRow w u b) :
  Calls Tryz.prog 51 #[v,u] w fun e w'=>e=.returned (.bool (decide (a=b)))/\Below w.heap.size w w':=by
 obtain⟨p,c,rfl,hp⟩:=hv;obtain⟨q,d,rfl,hq⟩:=hu;have HP:=J4 hp;have HQ:=J4 hq;clear hp hq;by_cases hlen:a.length=b.length
 ·rw[<-hlen];have hlen':=J4 hlen;clear hlen;go_enter Tryz.func51,Tryz.ntmps51;go_wp2
  go_loopw [5] (fun i wr=>∃k nd:Nat,i=.int .i64 k/\k<=a.length/\wr=w.drewN nd/\Hid (a.take k=b.take k)) (fun i _=>a.length-(intOf i).toNat)
  case atStart=>exact⟨0,0,rfl,by omega,rfl,(by show _=_;simp)⟩
  case round=>
   obtain⟨k,nd,rfl,hk,rfl,HE⟩:=hrel;by_cases hlt:k<a.length
   ·have hltb:k<b.length:=by have:=J0 hlen';omega
    obtain⟨g,o,rfl,a0⟩:=J0 HP k a[k] (by simp[hlt]);obtain⟨g',o',rfl,b0⟩:=J0 HQ k b[k] (by simp[hltb]);have hlt':(k:Int)<(a.length:Int):=by omega
    by_cases hxy:a[k]=b[k]
    ·have HX:=J4 (zc4 hlt hltb (J0 HE) hxy);rw[<-hxy]at b0;clear hxy;go_wp2;go_quiet (fail);go_wp2;go_roundw
     case rel=>exact⟨k+1,nd+nq,by go_num,by omega,by simp[World.drewN],HX⟩
     case measure=>simp[intOf];omega
    ·have hne:=bs_ne hxy;have HF:Hid (decide (a=b)=false):=decide_eq_false fun e=>hxy (by subst e;rfl)
     clear hxy;obtain⟨X,hX⟩:∃X:ByteArray,X=⟨a[k].toArray⟩:=⟨_,rfl⟩
     obtain⟨Y,hY⟩:∃Y:ByteArray,Y=⟨b[k].toArray⟩:=⟨_,rfl⟩
     rw[<-hX,<-hY]at hne;rw[<-hX]at a0;rw[<-hY]at b0;clear hX hY;go_wp2;go_quiet (fail);go_wp2;go_ret;exact⟨by rw[J0 HF];rfl,below_drewN (below_drewN (Below.refl _ _) _) _⟩
   ·have HT:Hid (decide (a=b)=true):=decide_eq_true (by
     have:=J0 HE;have h2:=J0 hlen';rwa[List.take_of_length_le (by omega),List.take_of_length_le (by omega)]at this)
    go_wp2;go_ret;exact⟨by rw[J0 HT];rfl,below_drewN (Below.refl _ _) _⟩
 ·have HF:Hid (decide (a=b)=false):=decide_eq_false fun e=>hlen (by rw[e])
  have h1:((a.length:Int)==(b.length:Int))=false:=by rw[beq_eq_false_iff_ne];omega
  have h2:((a.length:Int) != (b.length:Int))=true:=by rw[bne,h1];rfl
  have h3:(a.length:Int)≠(b.length:Int):=by omega
  clear hlen;go_enter Tryz.func51,Tryz.ntmps51;go_wp2;go_ret;exact⟨by rw[J0 HF];rfl,Below.refl _ _⟩
theorem bools_any (v u:Value) (a b:List Bool) (w:World) (hl:a.length<=140737488351232) (hv:BRow w v a) (hu:BRow w u b) :
  Calls Tryz.prog 52 #[v,u] w fun e w'=>e=.returned (.bool (decide (a=b)))/\Below w.heap.size w w':=by
 obtain⟨p,c,rfl,hp⟩:=hv;obtain⟨q,d,rfl,hq⟩:=hu;have HP:=J4 hp;have HQ:=J4 hq;clear hp hq;by_cases hlen:a.length=b.length
 ·rw[<-hlen];have hlen':=J4 hlen;clear hlen;go_enter Tryz.func52,Tryz.ntmps52;go_wp2
  go_loopw [5] (fun i wr=>∃k nd:Nat,i=.int .i64 k/\k<=a.length/\wr=w.drewN nd/\Hid (a.take k=b.take k)) (fun i _=>a.length-(intOf i).toNat)
  case atStart=>exact⟨0,0,rfl,by omega,rfl,(by show _=_;simp)⟩
  case round=>
   obtain⟨k,nd,rfl,hk,rfl,HE⟩:=hrel;by_cases hlt:k<a.length
   ·have hltb:k<b.length:=by have:=J0 hlen';omega
    obtain⟨g,o,rfl,a0⟩:=J0 HP k a[k] (by simp[hlt]);obtain⟨g',o',rfl,b0⟩:=J0 HQ k b[k] (by simp[hltb]);have hlt':(k:Int)<(a.length:Int):=by omega
    by_cases hxy:a[k]=b[k]
    ·have HX:=J4 (zc4 hlt hltb (J0 HE) hxy);rw[<-hxy]at b0;clear hxy;obtain⟨X,hX⟩:∃X:Bool,X=a[k]:=⟨_,rfl⟩
     rw[<-hX]at a0 b0;clear hX;go_wp2;go_quiet (fail);go_wp2;go_roundw
     case rel=>exact⟨k+1,nd+nq,by go_num,by omega,by simp[World.drewN],HX⟩
     case measure=>simp[intOf];omega
    ·have HF:Hid (decide (a=b)=false):=decide_eq_false fun e=>hxy (by subst e;rfl)
     obtain⟨X,hX⟩:∃X:Bool,X=a[k]:=⟨_,rfl⟩
     obtain⟨Y,hY⟩:∃Y:Bool,Y=b[k]:=⟨_,rfl⟩
     rw[<-hX,<-hY]at hxy;rw[<-hX]at a0;rw[<-hY]at b0;have hne:(X==Y)=false:=beq_eq_false_iff_ne.2 hxy;have hne':(X != Y)=true:=by rw[bne,hne];rfl
     clear hX hY;go_wp2;go_quiet (fail);go_wp2;go_ret;exact⟨by rw[J0 HF];rfl,below_drewN (below_drewN (Below.refl _ _) _) _⟩
   ·have HT:Hid (decide (a=b)=true):=decide_eq_true (by
     have:=J0 HE;have h2:=J0 hlen';rwa[List.take_of_length_le (by omega),List.take_of_length_le (by omega)]at this)
    go_wp2;go_ret;exact⟨by rw[J0 HT];rfl,below_drewN (Below.refl _ _) _⟩
 ·have HF:Hid (decide (a=b)=false):=decide_eq_false fun e=>hlen (by rw[e])
  have h1:((a.length:Int)==(b.length:Int))=false:=by rw[beq_eq_false_iff_ne];omega
  have h2:((a.length:Int) != (b.length:Int))=true:=by rw[bne,h1];rfl
  have h3:(a.length:Int)≠(b.length:Int):=by omega
  clear hlen;go_enter Tryz.func52,Tryz.ntmps52;go_wp2;go_ret;exact⟨by rw[J0 HF];rfl,Below.refl _ _⟩
def KTypeAt (d:Nat):Prop:=∀(a b:Ty d) (v u:Value) (w:World) (r:Bool),(r=true↔a=b)->TyValD w d v a->TyValD w d u b->WfD d a->WfD d b ->
 Calls Tryz.prog 13 #[v,u] w fun e w'=>e=.returned (.bool r)/\Below w.heap.size w w'
def KTypesAt (d:Nat):Prop:=∀(a b:List (Ty d)) (p q:Option Addr) (c e:Nat) (w:World) (r:Bool),(r=true↔a=b)->TyRow w d (.slice p a.length c) a->TyRow w d (.slice q b.length e) b->a.length<=140737488351232->(∀x∈a,WfD d x)->(∀x∈b,WfD d x) ->
 Calls Tryz.prog 53 #[.slice p a.length c,.slice q b.length e] w fun e w'=>e=.returned (.bool r)/\Below w.heap.size w w'
theorem zcp {B:Nat} {a w:World} (h:Below B a w):Below B a w.drew:=h.trans ⟨rfl,rfl,rfl,Nat.le_refl _,fun _ _=>rfl⟩
theorem zdx {B:Nat} {w w':World} (h:Below B w.drew w'):Below B w w':=(zcp (Below.refl B w)).trans h
theorem ktypes_of (d:Nat) (IH:KTypeAt d):KTypesAt d:=fun a b p q c c' w r hr hv hu hl wa wb=>by
 have HA:Hid (∀k (hk:k<a.length),∃u,TyCell w p k u/\TyValD w d u a[k]/\WfD d a[k]):=fun k hk=>by
  obtain⟨u,h1,h2⟩:=hv.at k hk;exact⟨u,h1,h2,wa _ (by simp)⟩
 have HB:Hid (∀k (hk:k<b.length),∃u,TyCell w q k u/\TyValD w d u b[k]/\WfD d b[k]):=fun k hk=>by
  obtain⟨u,h1,h2⟩:=hu.at k hk;exact⟨u,h1,h2,wb _ (by simp)⟩
 have HR:=J4 hr;have HI:=J4 IH;clear hv hu wa wb hr IH;by_cases hlen:a.length=b.length
 ·rw[<-hlen];have hlen':=J4 hlen;clear hlen;go_enter Tryz.func53,Tryz.ntmps53;go_wp2
  go_loopw [5] (fun i wr=>∃k:Nat,i=.int .i64 k/\k<=a.length/\Below w.heap.size w wr/\Hid (a.take k=b.take k)) (fun i _=>a.length-(intOf i).toNat)
  case atStart=>exact⟨0,rfl,by omega,Below.refl _ _,(by show _=_;simp)⟩
  case round=>
   obtain⟨k,rfl,hk,hb,HE⟩:=hrel;by_cases hlt:k<a.length
   ·have hltb:k<b.length:=by have:=J0 hlen';omega
    obtain⟨x,⟨g,o,K',S',qn,qe,q3,nn,c1,ne,c2,n3,c3,rfl,rfl,a0,a1,a2,a3,a4⟩,hx,wx⟩:=J0 HA k hlt;obtain⟨y,⟨g',o',K2,S2,rn,re,r3,nn',c1',ne',c2',n3',c3',rfl,rfl,e0,e1,e2,e3,e4⟩,hy,wy⟩:=J0 HB k hltb;have hlt':(k:Int)<(a.length:Int):=by omega
    have b0:=(hb.cell (p:=⟨g,_,none⟩) (za9 a0)).trans a0;have b1:=(hb.cell (p:=⟨g,_,none⟩) (za9 a1)).trans a1;have b2:=(hb.cell (p:=⟨g,_,none⟩) (za9 a2)).trans a2;have b3:=(hb.cell (p:=⟨g,_,none⟩) (za9 a3)).trans a3;have b4:=(hb.cell (p:=⟨g,_,none⟩) (za9 a4)).trans a4;have f0:=(hb.cell (p:=⟨g',_,none⟩) (za9 e0)).trans e0;have f1:=(hb.cell (p:=⟨g',_,none⟩) (za9 e1)).trans e1;have f2:=(hb.cell (p:=⟨g',_,none⟩) (za9 e2)).trans e2;have f3:=(hb.cell (p:=⟨g',_,none⟩) (za9 e3)).trans e3;have f4:=(hb.cell (p:=⟨g',_,none⟩) (za9 e4)).trans e4;have CL:=J4 (fun(r:Bool) (hr:r=true↔a[k]=b[k])=>J0 HI a[k] b[k] _ _ wr.drew r hr (TyValD.below (zcp hb) hx) (TyValD.below (zcp hb) hy) wx wy);have HBW:=J4 hb;clear a0 a1 a2 a3 a4 e0 e1 e2 e3 e4 hx hy wx wy hb HI HA HB;by_cases hxy:a[k]=b[k]
    ·have HX:=J4 (zc4 hlt hltb (J0 HE) hxy);have CT:=J4 (J0 CL true (by simp[hxy]));clear hxy CL;go_wp2
     go_region_with (go_at_call 13;refine(J0 CT).mono ?_;clear CT;rintro x w1 ⟨rfl,hb1⟩)
     all_goals
      go_wp2;go_roundw
      case rel=>exact⟨k+1,by go_num,by omega,(J0 HBW).trans (zdx (hb1.mono (J0 HBW).size)),HX⟩
      case measure=>simp[intOf];omega
    ·have HF:Hid (r=false):=by
      rcases r with _|_
      ·rfl
      ·exact absurd ((J0 HR).1 rfl) fun e=>hxy (by subst e;rfl)
     have CT:=J4 (J0 CL false (by simp[hxy]));clear hxy CL;go_wp2
     go_region_with (go_at_call 13;refine(J0 CT).mono ?_;clear CT;rintro x w1 ⟨rfl,hb1⟩)
     all_goals
      go_wp2;go_ret;exact⟨by rw[J0 HF];rfl,(J0 HBW).trans (zdx (hb1.mono (J0 HBW).size))⟩
   ·have HT:Hid (r=true):=(J0 HR).2 (by
     have:=J0 HE;have h2:=J0 hlen';rwa[List.take_of_length_le (by omega),List.take_of_length_le (by omega)]at this)
    go_wp2;go_ret;exact⟨by rw[J0 HT];rfl,hb⟩
 ·have HF:Hid (r=false):=by
   rcases r with _|_
   ·rfl
   ·exact absurd ((J0 HR).1 rfl) fun e=>hlen (by rw[e])
  have h1:((a.length:Int)==(b.length:Int))=false:=by rw[beq_eq_false_iff_ne];omega
  have h2:((a.length:Int) != (b.length:Int))=true:=by rw[bne,h1];rfl
  have h3:(a.length:Int)≠(b.length:Int):=by omega
  clear hlen HA HB HI;go_enter Tryz.func53,Tryz.ntmps53;go_wp2;go_ret;exact⟨by rw[J0 HF];rfl,Below.refl _ _⟩
theorem zex {K K':Int} {S S':ByteArray} {pn pe pp pn' pe' pp':Option Addr} {nn ne np cn ce cp nn' ne' np' cn' ce' cp':Nat} {w wr:World} (hb:Below ((w.alloc (tyBox K S pn pe pp nn ne np cn ce cp)).alloc (tyBox K' S' pn' pe' pp' nn' ne' np' cn' ce' cp')).heap.size ((w.alloc (tyBox K S pn pe pp nn ne np cn ce cp)).alloc (tyBox K' S' pn' pe' pp' nn' ne' np' cn' ce' cp')) wr) :
  (wr.cell? ⟨w.heap.size,3,none⟩=some (.slice pe ne ce)/\wr.cell? ⟨w.heap.size,4,none⟩=some (.slice pp np cp))/\(wr.cell? ⟨w.heap.size+1,3,none⟩=some (.slice pe' ne' ce')/\wr.cell? ⟨w.heap.size+1,4,none⟩=some (.slice pp' np' cp')):=by
 have h1:=box_cells (w:=w) (wr:=wr) (K:=K) (S:=S) (pn:=pn) (pe:=pe) (pp:=pp) (nn:=nn) (ne:=ne) (np:=np) (cn:=cn) (ce:=ce) (cp:=cp) (((Below.refl _ _).alloc (Nat.le_refl _) _).trans (hb.mono (by simp)));have h2:=box_cells (w:=w.alloc (tyBox K S pn pe pp nn ne np cn ce cp)) hb;rw[World.size_alloc]at h2;exact⟨⟨h1.2.2.2.1,h1.2.2.2.2⟩,⟨h2.2.2.2.1,h2.2.2.2.2⟩⟩
theorem ktype_of (d:Nat) (IH:KTypesAt d):KTypeAt (d+1):=fun a b v u w r hr hv hu wa wb=>by
 obtain⟨pn,pe,pp,cn,ce,cp,rfl,r1,r2,r3⟩:=hv;obtain⟨pn',pe',pp',cn',ce',cp',rfl,s1,s2,s3⟩:=hu;obtain⟨w1,w2,w3,w4,w5,w6⟩:=wa;obtain⟨x1,x2,x3,x4,x5,x6⟩:=wb;obtain⟨K,S,ns,es,ts⟩:=a;obtain⟨K',S',ns',es',ts'⟩:=b;dsimp only at *;have hr':r=true↔K=K'/\S=S'/\ns=ns'/\es=es'/\ts=ts':=by rw[hr];exact⟨fun h=>by injection h with h1 h2;injection h2 with h2 h3;injection h3 with h3 h4;injection h4 with h4 h5;exact⟨h1,h2,h3,h4,h5⟩,fun⟨h1,h2,h3,h4,h5⟩=>by subst h1 h2 h3 h4 h5;rfl⟩
 have HR:=J4 hr';have hbA:Below w.heap.size w ((w.alloc (tyBox K ⟨S.toArray⟩ pn pe pp ns.length es.length ts.length cn ce cp)).alloc (tyBox K' ⟨S'.toArray⟩ pn' pe' pp' ns'.length es'.length ts'.length cn' ce' cp')):=((Below.refl _ _).alloc (Nat.le_refl _) _).alloc (by simp) _;have HTX:Hid (∀W,Below w.heap.size w W->Calls Tryz.prog 51 #[.slice pn ns.length cn,.slice pn' ns'.length cn'] W fun e w'=>e=.returned (.bool (decide (ns=ns')))/\Below W.heap.size W w'):=fun W hW=>Texts_any _ _ ns ns' W w2 (r1.below hW) (s1.below hW)
 have HBL:Hid (∀W,Below w.heap.size w W->Calls Tryz.prog 52 #[.slice pe es.length ce,.slice pe' es'.length ce'] W fun e w'=>e=.returned (.bool (decide (es=es')))/\Below W.heap.size W w'):=fun W hW=>bools_any _ _ es es' W w4 (r2.below hW) (s2.below hW)
 have HTY:Hid (∀(r:Bool) W,(r=true↔ts=ts')->Below w.heap.size w W->Calls Tryz.prog 53 #[.slice pp ts.length cp,.slice pp' ts'.length cp'] W fun e w'=>e=.returned (.bool r)/\Below W.heap.size W w'):=fun r W hr hW=>IH ts ts' pp pp' cp cp' W r hr (TyRow.below hW d r3) (TyRow.below hW d s3) w5 w6 x6
 have HA:=J4 hbA;clear r1 r2 r3 s1 s2 s3 w1 w2 w3 w4 w5 w6 x1 x2 x3 x4 x5 x6 IH hr hr' hbA;by_cases h1:K=K'
 ·subst h1;by_cases h2:S=S'
  ·subst h2;have TX:=J4 (J0 HTX _ (J0 HA));by_cases h3:ns=ns'
   ·rw[decide_eq_true h3]at TX;by_cases h4:es=es'
    ·rw[decide_eq_true h4]at HBL;have TY:=J4 (fun W=>J0 HTY r W (by rw[J0 HR];exact⟨fun h=>h.2.2.2.2,fun h=>⟨rfl,rfl,h3,h4,h⟩⟩));clear h3 h4 HTX HTY HR;go_enter Tryz.func13,Tryz.ntmps13;go_wp2_with (first
      | (go_at_call 51;refine(J0 TX).mono ?_;clear TX;rintro x wa ⟨rfl,hb1⟩;obtain⟨⟨d1,d2⟩,⟨d3,d4⟩⟩:=zex hb1;have BL:=J4 (J0 HBL wa ((J0 HA).trans (hb1.mono (J0 HA).size))))
      | (go_at_call 52;refine(J0 BL).mono ?_;clear BL;rintro x wb ⟨rfl,hb2⟩;have hb3:=hb1.trans (hb2.mono hb1.size);obtain⟨⟨f1,f2⟩,⟨f3,f4⟩⟩:=zex hb3;have TZ:=J4 (J0 TY wb ((J0 HA).trans (hb3.mono (J0 HA).size))))
      | (go_at_call 53;refine(J0 TZ).mono ?_;clear TZ;rintro x wc ⟨rfl,hb4⟩))
     go_ret;exact⟨rfl,(J0 HA).trans ((hb3.trans (hb4.mono hb3.size)).mono (J0 HA).size)⟩
    ·rw[decide_eq_false h4]at HBL;obtain rfl:r=false:=by
      rcases r with _|_
      ·rfl
      ·exact absurd ((J0 HR).1 rfl).2.2.2.1 h4
     clear h3 h4 HTX HTY HR;go_enter Tryz.func13,Tryz.ntmps13;go_wp2_with (first
      | (go_at_call 51;refine(J0 TX).mono ?_;clear TX;rintro x wa ⟨rfl,hb1⟩;obtain⟨⟨d1,d2⟩,⟨d3,d4⟩⟩:=zex hb1;have BL:=J4 (J0 HBL wa ((J0 HA).trans (hb1.mono (J0 HA).size))))
      | (go_at_call 52;refine(J0 BL).mono ?_;clear BL;rintro x wb ⟨rfl,hb2⟩;have hb3:=hb1.trans (hb2.mono hb1.size)))
     go_ret;exact⟨rfl,(J0 HA).trans (hb3.mono (J0 HA).size)⟩
   ·rw[decide_eq_false h3]at TX;obtain rfl:r=false:=by
     rcases r with _|_
     ·rfl
     ·exact absurd ((J0 HR).1 rfl).2.2.1 h3
    clear h3 HTX HTY HR;go_enter Tryz.func13,Tryz.ntmps13;go_wp2_with (first
     | (go_at_call 51;refine(J0 TX).mono ?_;clear TX;rintro x wa ⟨rfl,hb1⟩))
    go_ret;exact⟨rfl,(J0 HA).trans (hb1.mono (J0 HA).size)⟩
  ·obtain rfl:r=false:=by
    rcases r with _|_
    ·rfl
    ·exact absurd ((J0 HR).1 rfl).2.1 h2
   have hne:=bs_ne h2;obtain⟨X,hX⟩:∃X:ByteArray,X=⟨S.toArray⟩:=⟨_,rfl⟩
   obtain⟨Y,hY⟩:∃Y:ByteArray,Y=⟨S'.toArray⟩:=⟨_,rfl⟩
   rw[<-hX,<-hY]at hne HA;rw[<-hX,<-hY];clear hX hY h2 HTX HTY HR HBL;go_enter Tryz.func13,Tryz.ntmps13;go_wp2;go_ret;exact⟨rfl,J0 HA⟩
 ·obtain rfl:r=false:=by
   rcases r with _|_
   ·rfl
   ·exact absurd ((J0 HR).1 rfl).1 h1
  have hne:(K==K')=false:=beq_eq_false_iff_ne.2 h1;clear HTX HTY HR HBL;go_enter Tryz.func13,Tryz.ntmps13;go_wp2;go_ret;exact⟨rfl,J0 HA⟩
theorem ze6:∀d,KTypeAt d
 | 0=>fun t=>nomatch t
 | d+1=>ktype_of d (ktypes_of d (ze6 d))
end Go.Proofs.YtdamlfkieecnjaaGreatDoor
