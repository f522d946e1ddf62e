import Derived.Test.YtdamlfkieecnjaaGreatDoorQQFail
import Derived.Test.YtdamlfkieecnjaaGreatDoorQPTyC
set_option maxHeartbeats 2000000
set_option maxRecDepth 100000
namespace Go.Proofs.YtdamlfkieecnjaaGreatDoor
open Go Go.RowKit Lx
theorem isM_one (t:Tok) (m:Bs):isM t [m]=((t.2.1==6||t.2.1==3)&&(t.2.2.1==m)):=by
 unfold isM zcr
 congr 1
 rw[List.contains_cons];simp
theorem is_q (b:Nat) (en:Int) (ts:List Tok) (s:RS) (m:Bs):Rdq b en ts 64 #[rp b,.string ⟨m.toArray⟩] s s (.bool (JB s m)):=fun w h=>by
 obtain⟨i,y,a,hq,rfl⟩:=h;have hl:=hq.lt;obtain⟨p,c,h1,h2,h3⟩:=id hq;obtain⟨⟨c0,c1,c2,c3,c4⟩,cf⟩:=zc0 h1;by_cases hy:y=0
 ·subst hy
  cases ht:ts[i]? with
  | some t=>
   obtain⟨g,o,rfl,t0,t1,t2,t3⟩:=h2.tok ht;have hi:i<ts.length:=(List.getElem?_eq_some_iff.1 ht).1;have hi2:(i:Int)<(ts.length:Int):=by omega
   have e1:JB (qs ts i 0 a) m=isM t [m]:=by simp[JB,qs,zdy ht,J5]
   rw[e1];have HQ:=J4 hq;have H1:=J4 h1;have HT:=J4 h2;clear hq h1 h2 e1;go_enter Tryz.func64,Tryz.ntmps64;go_upto_region 1 with fail
   go_quiet (fail);have hdec:decide (ts.length<=i)=false:=by simp;omega
   simp only[hdec];obtain⟨W2,hW2⟩:∃W2:World,W2=w.drewN nq:=⟨_,rfl⟩
   have v0:W2.cell? ⟨b,0,none⟩=some (.slice (some ⟨g,o,none⟩) ts.length c):=by rw[hW2];exact c0
   have v2:W2.cell? ⟨b,2,none⟩=some (.int .i64 (i:Int)):=by rw[hW2];exact c2
   have u0:W2.cell? ⟨g,o+i*4,none⟩=some (.int .i64 (t.1:Int)):=by rw[hW2];exact t0
   have u1:W2.cell? ⟨g,o+i*4+1,none⟩=some (.int .i64 t.2.1):=by rw[hW2];exact t1
   have u2:W2.cell? ⟨g,o+i*4+2,none⟩=some (.string ⟨t.2.2.1.toArray⟩):=by rw[hW2];exact t2
   have u3:W2.cell? ⟨g,o+i*4+3,none⟩=some (.int .i64 t.2.2.2):=by rw[hW2];exact t3
   have HW2:=J4 hW2;rw[<-hW2];clear hW2 c0 c1 c2 c3 c4 cf t0 t1 t2 t3 hdec;go_upto_region 3 with fail
   have e1:=World.new_ne W2 _ v0;have e2:=World.new_ne W2 _ v2;have e3:=World.new_ne W2 _ u0;have e4:=World.new_ne W2 _ u1;have e5:=World.new_ne W2 _ u2;have e6:=World.new_ne W2 _ u3
   go_region_held3 (fun V=>V.cell? ⟨b,0,none⟩=some (.slice (some ⟨g,o,none⟩) ts.length c)/\V.cell? ⟨b,2,none⟩=some (.int .i64 (i:Int))/\V.cell? ⟨g,o+i*4,none⟩=some (.int .i64 (t.1:Int))/\V.cell? ⟨g,o+i*4+1,none⟩=some (.int .i64 t.2.1)/\V.cell? ⟨g,o+i*4+2,none⟩=some (.string ⟨t.2.2.1.toArray⟩)/\V.cell? ⟨g,o+i*4+3,none⟩=some (.int .i64 t.2.2.2)) (go_keep) (fail)
   clear e1 e2 e3 e4 e5 e6 v0 v2 u0 u1 u2 u3;obtain⟨x,hx⟩:∃x,x=W2.heap.size:=⟨_,rfl⟩
   obtain⟨W3,hW3⟩:∃W3:World,W3=(W2.alloc (.cells #[.int .i64 (t.1:Int),.int .i64 t.2.1,.string ⟨t.2.2.1.toArray⟩,.int .i64 t.2.2.2] 174)).drew:=⟨_,rfl⟩
   have n3:W3.heap[x]?=some (tokO t.1 t.2.1 t.2.2.1 t.2.2.2):=by rw[hW3,hx];exact J6 W2 _
   have hb3:Below w.heap.size w W3:=by rw[hW3,J0 HW2];exact((below_drewN (Below.refl _ _) nq).alloc (Nat.le_refl _) _).drew
   obtain⟨k,hk⟩:∃k,k=t.2.1:=⟨_,rfl⟩
   obtain⟨S,hS⟩:∃S,S=t.2.2.1:=⟨_,rfl⟩
   have hM:isM t [m]=((k==6||k==3)&&(S==m)):=by rw[isM_one,hk,hS]
   rw[<-hW3,<-hx,<-hk,<-hS];rw[<-hk,<-hS]at n3;have f1:W3.cell? ⟨x,1,none⟩=some (.int .i64 k):=(Lib.cell_of_heap n3 1).trans rfl;have f2:W3.cell? ⟨x,2,none⟩=some (.string ⟨S.toArray⟩):=(Lib.cell_of_heap n3 2).trans rfl;have HB:=J4 hb3;have HR:Hid (RqAt b en ts (qs ts i 0 a) W3/\Kx b w W3):=⟨RqAt.below ⟨i,0,a,J0 HQ,rfl⟩ hb3,.of_below hb3 (Nat.le_of_lt hl)⟩
   clear hW3 hx hk hS n3 hb3;by_cases hk3:k=3
   ·subst hk3;have HM:=J4 hM;clear hM;go_wp2;exact bodyPost_ret (v:=.bool (S==m)) (by simp[results,Tryz.results64,go_sem]) rfl ⟨by rw[J0 HM];simp,J0 HR⟩
   ·by_cases hk6:k=6
    ·subst hk6;have HM:=J4 hM;clear hM;go_wp2;exact bodyPost_ret (v:=.bool (S==m)) (by simp[results,Tryz.results64,go_sem]) rfl ⟨by rw[J0 HM];simp,J0 HR⟩
    ·have h3':(k==3)=false:=by simpa using hk3
     have h6':(k==6)=false:=by simpa using hk6
     have h3d:decide (k=3)=false:=by simpa using hk3
     have h6d:decide (k=6)=false:=by simpa using hk6
     rw[h3',h6']at hM;have HM:=J4 hM;clear hM;go_wp2;exact bodyPost_ret (v:=.bool false) (by simp[results,Tryz.results64,go_sem]) rfl ⟨by rw[J0 HM];simp,J0 HR⟩
  | none=>
   have hi:ts.length<=i:=List.getElem?_eq_none_iff.1 ht;have hdp:ts.drop i=[]:=List.drop_eq_nil_of_le hi;have e1:JB (qs ts i 0 a) m=false:=by simp[JB,qs,hdp,J5,isM_one]
   rw[e1];have hi2:(ts.length:Int)<=(i:Int):=by omega
   have HQ:=J4 hq;clear hq h1 h2 e1;go_enter Tryz.func64,Tryz.ntmps64;go_upto_region 1 with fail
   go_quiet (fail);have hdec:decide (ts.length<=i)=true:=by simp;omega
   (try simp only[hdec])
   go_wp2;have hb3:Below w.heap.size w (w.drewN nq):=below_drewN (Below.refl _ _) nq;exact bodyPost_ret (v:=.bool false) (by simp[results,Tryz.results64,go_sem]) rfl ⟨rfl,RqAt.below ⟨i,0,a,J0 HQ,rfl⟩ hb3,.of_below hb3 (Nat.le_of_lt hl)⟩
 ·have e1:JB (qs ts i y a) m=false:=by simp[JB,qs,hy,J5,isM_one]
  rw[e1];have HQ:=J4 hq;have hy1:(y==0)=false:=by simpa using hy
  have hy2:decide (y=0)=false:=by simpa using hy
  clear hq h1 h2 e1;go_enter Tryz.func64,Tryz.ntmps64;go_upto_region 1 with fail
  go_quiet (fail);go_wp2;have hb3:Below w.heap.size w (w.drewN nq):=below_drewN (Below.refl _ _) nq;exact bodyPost_ret (v:=.bool false) (by simp[results,Tryz.results64,go_sem]) rfl ⟨rfl,RqAt.below ⟨i,y,a,J0 HQ,rfl⟩ hb3,.of_below hb3 (Nat.le_of_lt hl)⟩
end Go.Proofs.YtdamlfkieecnjaaGreatDoor
namespace Go.Proofs.YtdamlfkieecnjaaGreatDoor
open Go Go.RowKit Lx
theorem kind_q (b:Nat) (en:Int) (ts:List Tok) (s:RS) (k:Int) (hk:k≠0):Rdq b en ts 94 #[rp b,.int .i64 k] s s (.bool ((J5 s).2.1==k)):=fun w h=>by
 obtain⟨i,y,a,hq,rfl⟩:=h;have hl:=hq.lt;obtain⟨p,c,h1,h2,h3⟩:=id hq;obtain⟨⟨c0,c1,c2,c3,c4⟩,cf⟩:=zc0 h1;have hk0:decide ((0:Int)=k)=false:=by simp;omega
 by_cases hy:y=0
 ·subst hy
  cases ht:ts[i]? with
  | some t=>
   obtain⟨g,o,rfl,t0,t1,t2,t3⟩:=h2.tok ht;have hi:i<ts.length:=(List.getElem?_eq_some_iff.1 ht).1;have hi2:(i:Int)<(ts.length:Int):=by omega
   have e1:((J5 (qs ts i 0 a)).2.1==k)=(t.2.1==k):=by simp[qs,zdy ht,J5]
   rw[e1];have HQ:=J4 hq;clear hq h1 h2 e1 hk0;go_enter Tryz.func94,Tryz.ntmps94;go_upto_region 1 with fail
   go_quiet (fail);go_wp2;have hb3:Below w.heap.size w (w.drewN nq):=below_drewN (Below.refl _ _) nq;exact bodyPost_ret (v:=.bool (t.2.1==k)) (by simp[results,Tryz.results94,go_sem]) rfl ⟨rfl,RqAt.below ⟨i,0,a,J0 HQ,rfl⟩ hb3,.of_below hb3 (Nat.le_of_lt hl)⟩
  | none=>
   have hi:ts.length<=i:=List.getElem?_eq_none_iff.1 ht;have hdp:ts.drop i=[]:=List.drop_eq_nil_of_le hi;have e1:((J5 (qs ts i 0 a)).2.1==k)=false:=by simp[qs,hdp,J5];omega
   rw[e1];have hi2:(ts.length:Int)<=(i:Int):=by omega
   have hnl:decide (i<ts.length)=false:=by simp;omega
   have HQ:=J4 hq;clear hq h1 h2 e1 hk0;go_enter Tryz.func94,Tryz.ntmps94;go_upto_region 1 with fail
   go_quiet (fail);go_wp2;have hb3:Below w.heap.size w (w.drewN nq):=below_drewN (Below.refl _ _) nq;exact bodyPost_ret (v:=.bool false) (by simp[results,Tryz.results94,go_sem]) rfl ⟨rfl,RqAt.below ⟨i,0,a,J0 HQ,rfl⟩ hb3,.of_below hb3 (Nat.le_of_lt hl)⟩
 ·have e1:((J5 (qs ts i y a)).2.1==k)=false:=by simp[qs,hy,J5];omega
  rw[e1];have HQ:=J4 hq;have hy1:(y==0)=false:=by simpa using hy
  have hy2:decide (y=0)=false:=by simpa using hy
  clear hq h1 h2 e1 hk0;go_enter Tryz.func94,Tryz.ntmps94;go_upto_region 1 with fail
  go_quiet (fail);go_wp2;have hb3:Below w.heap.size w (w.drewN nq):=below_drewN (Below.refl _ _) nq;exact bodyPost_ret (v:=.bool false) (by simp[results,Tryz.results94,go_sem]) rfl ⟨rfl,RqAt.below ⟨i,y,a,J0 HQ,rfl⟩ hb3,.of_below hb3 (Nat.le_of_lt hl)⟩
theorem QAt.next {b:Nat} {en:Int} {ts:List Tok} {i:Nat} {a:Int} {W:World} (h:QAt b en ts i 0 a W) (hi:i<ts.length):RqAt b en ts (J7 (qs ts i 0 a)) (W.setCell ⟨b,2,none⟩ (.int .i64 ((i+1:Nat):Int))):=by
 obtain⟨p,c,h1,h2,h3⟩:=h;refine⟨i+1,0,a,⟨p,c,Ja (i:=2) h1 _,h2.keep ((Below.refl _ _).setCell (p:=⟨b,2,none⟩) (Nat.le_refl _) _),hi⟩,?_⟩;simp[qs,J7,List.tail_drop]
theorem zaz {ts:List Tok} {i:Nat} {y a:Int} (h:(qs ts i y a).1≠[]):y=0/\i<ts.length:=by
 unfold qs at h;by_cases hy:y=0
 ·rw[if_pos hy]at h;refine⟨hy,?_⟩;rcases Nat.lt_or_ge i ts.length with e|e
  ·exact e
  ·exact absurd (List.drop_eq_nil_of_le e) h
 ·rw[if_neg hy]at h;exact absurd rfl h
theorem acc_open {s:RS} {m:Bs} (h:JB s m=true):s.1≠[]:=fun e=>by
 simp[JB,J5,e,isM_one]at h
theorem zeb (b:Nat) (en:Int) (ts:List Tok) (hn:ts.length<=100000) (s:RS) (m:Bs):Rdq b en ts 99 #[rp b,.string ⟨m.toArray⟩] s (Je en s m) (.tuple #[]):=fun w h=>by
 have hl:=h.lt;have IS:=J4 (is_q b en ts s m w h)
 cases hx:JB s m with
 | true=>
  have e1:Je en s m=J7 s:=by simp[Je,hx]
  rw[e1];rw[hx]at IS;have hs:=acc_open hx;clear hx e1 h;go_enter Tryz.func99,Tryz.ntmps99;go_upto_region 2 with(go_at_call 64;refine(J0 IS).mono ?_;clear IS;rintro e w2 ⟨rfl,r1,r2⟩;have R1:=J4 r1;have R2:=J4 r2;clear r1 r2)
  obtain⟨i,y,a,hq,rfl⟩:=J0 R1;obtain⟨rfl,hi⟩:=zaz hs;obtain⟨p,c,h1,h2,h3⟩:=id hq;obtain⟨⟨c0,c1,c2,c3,c4⟩,cf⟩:=zc0 h1;have HQ:=J4 hq;have hw:IntKind.i64.wrap ((i:Int)+1)=((i+1:Nat):Int):=by rw[IntKind.wrap_i64];omega
  clear hq h1 h2;go_wp2;rw[<-show((i+1:Nat):Int)=(i:Int)+1 by omega];exact bodyPost_end (v:=.tuple #[]) (by simp[results,Tryz.results99,go_sem]) rfl ⟨rfl,(J0 HQ).next hi,(J0 R2).set _⟩
 | false=>
  have e1:Je en s m=Jb en s:=by simp[Je,hx]
  rw[e1,<-zbp];rw[hx]at IS;have FL:=J4 (zdv b en ts s 13 (by decide));clear hx e1 h;go_enter Tryz.func99,Tryz.ntmps99;go_wp2_with (first|(go_at_call 64;refine(J0 IS).mono ?_;clear IS;rintro e w2 ⟨rfl,r1,r2⟩;have R1:=J4 r1;have R2:=J4 r2;clear r1 r2)|(go_at_call 71;refine(J0 FL _ (J0 R1)).mono ?_;clear FL;rintro e w3 ⟨rfl,q1,q2⟩;have Q1:=J4 q1;have Q2:=J4 q2;clear q1 q2));exact bodyPost_ret (v:=.tuple #[]) (by simp[results,Tryz.results99,go_sem]) rfl ⟨rfl,J0 Q1,Kl.on (J0 R2) (J0 Q2)⟩
end Go.Proofs.YtdamlfkieecnjaaGreatDoor
namespace Go.Proofs.YtdamlfkieecnjaaGreatDoor
open Go Go.RowKit Lx
theorem kind_open {s:RS} {k:Int} (hk:k≠0) (h:(J5 s).2.1=k):s.1≠[]:=fun e=>by
 simp[J5,e]at h;omega
theorem word_q (b:Nat) (en:Int) (ts:List Tok) (hn:ts.length<=100000) (s:RS) (k:Int) (hk:k≠0):Rdq b en ts 95 #[rp b,.int .i64 k] s (JX en s k) (.string ⟨(JF s k).2.2.1.toArray⟩):=fun w h=>by
 have hl:=h.lt;have IS:=J4 (kind_q b en ts s k hk w h);by_cases hx:(J5 s).2.1=k
 ·have e1:JX en s k=J7 s:=by simp[JX,hx]
  have e2:JF s k=J5 s:=by simp[JF,hx]
  rw[e1,e2];rw[show((J5 s).2.1==k)=true by simpa using hx]at IS;have hs:=kind_open hk hx;clear hx e1 e2 h;go_enter Tryz.func95,Tryz.ntmps95;go_upto_region 4 with(go_at_call 94;refine(J0 IS).mono ?_;clear IS;rintro e w2 ⟨rfl,r1,r2⟩;have R1:=J4 r1;have R2:=J4 r2;clear r1 r2)
  obtain⟨i,y,a,hq,rfl⟩:=J0 R1;obtain⟨rfl,hi⟩:=zaz hs;obtain⟨t,ht⟩:∃t,ts[i]?=some t:=⟨_,List.getElem?_eq_getElem hi⟩
  obtain⟨p,c,h1,h2,h3⟩:=id hq;obtain⟨g,o,rfl,t0,t1,t2,t3⟩:=h2.tok ht;obtain⟨⟨c0,c1,c2,c3,c4⟩,cf⟩:=zc0 h1;have hgb:=h2.low ht;have hpk:J5 (qs ts i 0 a)=t:=by simp[qs,zdy ht,J5]
  have HP:=J4 hpk;have HQ:=J4 hq;have H1:=J4 h1;have hw:IntKind.i64.wrap ((i:Int)+1)=(i:Int)+1:=by rw[IntKind.wrap_i64];omega
  have hw2:IntKind.i64.wrap ((i:Int)+1-1)=(i:Int):=by rw[IntKind.wrap_i64];omega
  clear hq h1 h2 hpk;go_upto_region 5 with fail
  obtain⟨W1,hW1⟩:∃W1:World,W1=w2.setCell ⟨b,2,none⟩ (.int .i64 ((i:Int)+1)):=⟨_,rfl⟩
  have n1:W1.heap[b]?=some (.cells #[.slice (some ⟨g,o,none⟩) ts.length c,.int .i64 en,.int .i64 ((i:Int)+1),.int .i64 0,.int .i64 a] qT):=by rw[hW1];exact Ja (i:=2) (J0 H1) _
  have u2:W1.cell? ⟨g,o+i*4+2,none⟩=some (.string ⟨t.2.2.1.toArray⟩):=by rw[hW1];exact(World.cell?_of_block (Below.heap_setCell _ _ _ _ (by show g≠b;omega))).trans t2
  obtain⟨⟨d0,d1,d2,d3,d4⟩,df⟩:=zc0 n1;have HW1:=J4 hW1;rw[<-hW1];have hi2:(i:Int)<(ts.length:Int):=by omega
  clear c0 c1 c2 c3 c4 cf t0 t1 t2 t3 hW1 n1;go_quiet (fail);go_wp2;have e3:((i+1:Nat):Int)=(i:Int)+1:=by omega
  have q1:=(J0 HQ).next hi;rw[e3,<-J0 HW1]at q1;have hb3:Below W1.heap.size W1 (W1.drewN nq):=below_drewN (Below.refl _ _) nq;have k1:Kx b w W1:=by rw[J0 HW1];exact(J0 R2).set _
  exact bodyPost_ret (v:=.string ⟨t.2.2.1.toArray⟩) (by simp[results,Tryz.results95,go_sem]) rfl ⟨by rw[J0 HP],q1.below hb3,k1.drewN nq⟩
 ·have e1:JX en s k=Jb en s:=by simp[JX,hx]
  have e2:(JF s k).2.2.1=[]:=by simp[JF,hx]
  rw[e1,e2,<-zbp];rw[show((J5 s).2.1==k)=false by simpa using hx]at IS;have FL:=J4 (zdv b en ts s 13 (by decide));clear hx e1 e2 h;go_enter Tryz.func95,Tryz.ntmps95;go_wp2_with (first|(go_at_call 94;refine(J0 IS).mono ?_;clear IS;rintro e w2 ⟨rfl,r1,r2⟩;have R1:=J4 r1;have R2:=J4 r2;clear r1 r2)|(go_at_call 71;refine(J0 FL _ (J0 R1)).mono ?_;clear FL;rintro e w3 ⟨rfl,q1,q2⟩;have Q1:=J4 q1;have Q2:=J4 q2;clear q1 q2));exact bodyPost_ret (v:=.string ⟨#[]⟩) (by simp[results,Tryz.results95,go_sem]) rfl ⟨rfl,J0 Q1,Kl.on (J0 R2) (J0 Q2)⟩
theorem end_q (b:Nat) (en:Int) (ts:List Tok) (s:RS):Rdq b en ts 46 #[rp b] s (if s.1=[]then s else Jb en s) (.tuple #[]):=fun w h=>by
 have hl:=h.lt;have FL:=J4 (zdv b en ts s 13 (by decide));obtain⟨i,y,a,hq,rfl⟩:=h;obtain⟨p,c,h1,h2,h3⟩:=id hq;obtain⟨⟨c0,c1,c2,c3,c4⟩,cf⟩:=zc0 h1;have HQ:=J4 hq;clear hq h1 h2;by_cases hi:i<ts.length
 ·have hi2:(i:Int)<(ts.length:Int):=by omega
  have hd1:decide (i<ts.length)=true:=by simpa using hi
  have e1:(if (qs ts i y a).1=[]then qs ts i y a else Jb en (qs ts i y a))=zbk en 13 (qs ts i y a):=by
   split
   ·rename_i he;have hy:y≠0:=fun e=>by
     subst e;have:ts.drop i≠[]:=by simp;omega
     exact this (by simpa[qs]using he)
    simp[qs,hy,zbk,zbv]
   ·rfl
  rw[e1];clear e1;go_enter Tryz.func46,Tryz.ntmps46;go_upto_region 0 with fail
  go_quiet (fail)
  (try simp only[hd1])
  have R1:Hid (RqAt b en ts (qs ts i y a) (w.drewN nq)):=RqAt.below ⟨i,y,a,J0 HQ,rfl⟩ (below_drewN (Below.refl _ _) nq);obtain⟨W1,hW1⟩:∃W1,W1=w.drewN nq:=⟨_,rfl⟩
  have K1:Hid (Kx b w W1):=by rw[hW1];exact(Kl.refl _ _ _).drewN nq
  rw[<-hW1]at R1 ⊢;clear hW1 c0 c1 c2 c3 c4 cf;go_wp2_with (go_at_call 71;refine(J0 FL _ (J0 R1)).mono ?_;clear FL;rintro e w3 ⟨rfl,q1,q2⟩;have Q1:=J4 q1;have Q2:=J4 q2;clear q1 q2);exact bodyPost_end (v:=.tuple #[]) (by simp[results,Tryz.results46,go_sem]) rfl ⟨rfl,J0 Q1,Kl.on (J0 K1) (J0 Q2)⟩
 ·have hi2:(ts.length:Int)<=(i:Int):=by omega
  have hd1:decide (i<ts.length)=false:=by simpa using hi
  have e1:(if (qs ts i y a).1=[]then qs ts i y a else Jb en (qs ts i y a))=qs ts i y a:=by
   rw[if_pos];unfold qs
   split
   ·exact List.drop_eq_nil_of_le (by omega)
   ·rfl
  rw[e1];clear e1;go_enter Tryz.func46,Tryz.ntmps46;go_upto_region 0 with fail
  go_quiet (fail)
  (try simp only[hd1])
  go_wp2;exact bodyPost_end (v:=.tuple #[]) (by simp[results,Tryz.results46,go_sem]) rfl ⟨rfl,RqAt.below ⟨i,y,a,J0 HQ,rfl⟩ (below_drewN (Below.refl _ _) nq),(Kl.refl _ _ _).drewN nq⟩
end Go.Proofs.YtdamlfkieecnjaaGreatDoor
namespace Go.Proofs.YtdamlfkieecnjaaGreatDoor
open Go Go.RowKit Lx
theorem begT_cases (s:RS):za2 (J5 s)=(((J5 s).2.1==2)||(JB s [105,110,116]||(JB s [98,111,111,108]||(JB s [116,101,120,116]||(JB s [42]||(JB s [123]||(JB s [102,110]||(JB s [105,110,116,101,114,102,97,99,101])))))))):=by
 unfold za2
 congr 1
 simp only[JB,isM,zcr,zd5]
 cases ((J5 s).2.1==6||(J5 s).2.1==3)with
 | true=>simp
 | false=>simp
theorem zaj (b:Nat) (en:Int) (ts:List Tok) (s:RS):Rdq b en ts 93 #[rp b] s s (.bool (za2 (J5 s))):=fun w h=>by
 have I0:=J4 (fun w h=>kind_q b en ts s 2 (by decide) w h);have I1:=J4 (fun w h=>is_q b en ts s [105,110,116] w h);have I2:=J4 (fun w h=>is_q b en ts s [98,111,111,108] w h);have I3:=J4 (fun w h=>is_q b en ts s [116,101,120,116] w h);have I4:=J4 (fun w h=>is_q b en ts s [42] w h);have I5:=J4 (fun w h=>is_q b en ts s [123] w h);have I6:=J4 (fun w h=>is_q b en ts s [102,110] w h);have I7:=J4 (fun w h=>is_q b en ts s [105,110,116,101,114,102,97,99,101] w h);rw[begT_cases];obtain⟨x0,hx0⟩:∃x,x=((J5 s).2.1==2):=⟨_,rfl⟩
 rw[<-hx0]at I0 ⊢;obtain⟨x1,hx1⟩:∃x,x=JB s [105,110,116]:=⟨_,rfl⟩
 rw[<-hx1]at I1 ⊢;obtain⟨x2,hx2⟩:∃x,x=JB s [98,111,111,108]:=⟨_,rfl⟩
 rw[<-hx2]at I2 ⊢;obtain⟨x3,hx3⟩:∃x,x=JB s [116,101,120,116]:=⟨_,rfl⟩
 rw[<-hx3]at I3 ⊢;obtain⟨x4,hx4⟩:∃x,x=JB s [42]:=⟨_,rfl⟩
 rw[<-hx4]at I4 ⊢;obtain⟨x5,hx5⟩:∃x,x=JB s [123]:=⟨_,rfl⟩
 rw[<-hx5]at I5 ⊢;obtain⟨x6,hx6⟩:∃x,x=JB s [102,110]:=⟨_,rfl⟩
 rw[<-hx6]at I6 ⊢;obtain⟨x7,hx7⟩:∃x,x=JB s [105,110,116,101,114,102,97,99,101]:=⟨_,rfl⟩
 rw[<-hx7]at I7 ⊢;clear hx0 hx1 hx2 hx3 hx4 hx5 hx6 hx7;have R:=J4 h;have K:=J4 (Kl.refl b w.heap.size w);clear h
 cases x0 with
 | true=>
  go_enter Tryz.func93,Tryz.ntmps93;go_wp2_with (first|(go_at_call 94;refine(J0 I0 _ (J0 R)).mono ?_;clear I0;rintro e w2 ⟨rfl,r1,r2⟩;have K:=J4 (Kl.on (J0 K) r2);have R:=J4 r1;clear r1 r2)|(go_at_call 64;first|(refine(J0 I1 _ (J0 R)).mono ?_;clear I1;rintro e w2 ⟨rfl,r1,r2⟩;have K:=J4 (Kl.on (J0 K) r2);have R:=J4 r1;clear r1 r2)|(refine(J0 I2 _ (J0 R)).mono ?_;clear I2;rintro e w2 ⟨rfl,r1,r2⟩;have K:=J4 (Kl.on (J0 K) r2);have R:=J4 r1;clear r1 r2)|(refine(J0 I3 _ (J0 R)).mono ?_;clear I3;rintro e w2 ⟨rfl,r1,r2⟩;have K:=J4 (Kl.on (J0 K) r2);have R:=J4 r1;clear r1 r2)|(refine(J0 I4 _ (J0 R)).mono ?_;clear I4;rintro e w2 ⟨rfl,r1,r2⟩;have K:=J4 (Kl.on (J0 K) r2);have R:=J4 r1;clear r1 r2)|(refine(J0 I5 _ (J0 R)).mono ?_;clear I5;rintro e w2 ⟨rfl,r1,r2⟩;have K:=J4 (Kl.on (J0 K) r2);have R:=J4 r1;clear r1 r2)|(refine(J0 I6 _ (J0 R)).mono ?_;clear I6;rintro e w2 ⟨rfl,r1,r2⟩;have K:=J4 (Kl.on (J0 K) r2);have R:=J4 r1;clear r1 r2)|(refine(J0 I7 _ (J0 R)).mono ?_;clear I7;rintro e w2 ⟨rfl,r1,r2⟩;have K:=J4 (Kl.on (J0 K) r2);have R:=J4 r1;clear r1 r2)));exact bodyPost_ret (v:=.bool true) (by simp[results,Tryz.results93,go_sem]) rfl ⟨by simp,J0 R,J0 K⟩
 | false=>
  cases x1 with
  | true=>
   go_enter Tryz.func93,Tryz.ntmps93;go_wp2_with (first|(go_at_call 94;refine(J0 I0 _ (J0 R)).mono ?_;clear I0;rintro e w2 ⟨rfl,r1,r2⟩;have K:=J4 (Kl.on (J0 K) r2);have R:=J4 r1;clear r1 r2)|(go_at_call 64;first|(refine(J0 I1 _ (J0 R)).mono ?_;clear I1;rintro e w2 ⟨rfl,r1,r2⟩;have K:=J4 (Kl.on (J0 K) r2);have R:=J4 r1;clear r1 r2)|(refine(J0 I2 _ (J0 R)).mono ?_;clear I2;rintro e w2 ⟨rfl,r1,r2⟩;have K:=J4 (Kl.on (J0 K) r2);have R:=J4 r1;clear r1 r2)|(refine(J0 I3 _ (J0 R)).mono ?_;clear I3;rintro e w2 ⟨rfl,r1,r2⟩;have K:=J4 (Kl.on (J0 K) r2);have R:=J4 r1;clear r1 r2)|(refine(J0 I4 _ (J0 R)).mono ?_;clear I4;rintro e w2 ⟨rfl,r1,r2⟩;have K:=J4 (Kl.on (J0 K) r2);have R:=J4 r1;clear r1 r2)|(refine(J0 I5 _ (J0 R)).mono ?_;clear I5;rintro e w2 ⟨rfl,r1,r2⟩;have K:=J4 (Kl.on (J0 K) r2);have R:=J4 r1;clear r1 r2)|(refine(J0 I6 _ (J0 R)).mono ?_;clear I6;rintro e w2 ⟨rfl,r1,r2⟩;have K:=J4 (Kl.on (J0 K) r2);have R:=J4 r1;clear r1 r2)|(refine(J0 I7 _ (J0 R)).mono ?_;clear I7;rintro e w2 ⟨rfl,r1,r2⟩;have K:=J4 (Kl.on (J0 K) r2);have R:=J4 r1;clear r1 r2)));exact bodyPost_ret (v:=.bool true) (by simp[results,Tryz.results93,go_sem]) rfl ⟨by simp,J0 R,J0 K⟩
  | false=>
   cases x2 with
   | true=>
    go_enter Tryz.func93,Tryz.ntmps93;go_wp2_with (first|(go_at_call 94;refine(J0 I0 _ (J0 R)).mono ?_;clear I0;rintro e w2 ⟨rfl,r1,r2⟩;have K:=J4 (Kl.on (J0 K) r2);have R:=J4 r1;clear r1 r2)|(go_at_call 64;first|(refine(J0 I1 _ (J0 R)).mono ?_;clear I1;rintro e w2 ⟨rfl,r1,r2⟩;have K:=J4 (Kl.on (J0 K) r2);have R:=J4 r1;clear r1 r2)|(refine(J0 I2 _ (J0 R)).mono ?_;clear I2;rintro e w2 ⟨rfl,r1,r2⟩;have K:=J4 (Kl.on (J0 K) r2);have R:=J4 r1;clear r1 r2)|(refine(J0 I3 _ (J0 R)).mono ?_;clear I3;rintro e w2 ⟨rfl,r1,r2⟩;have K:=J4 (Kl.on (J0 K) r2);have R:=J4 r1;clear r1 r2)|(refine(J0 I4 _ (J0 R)).mono ?_;clear I4;rintro e w2 ⟨rfl,r1,r2⟩;have K:=J4 (Kl.on (J0 K) r2);have R:=J4 r1;clear r1 r2)|(refine(J0 I5 _ (J0 R)).mono ?_;clear I5;rintro e w2 ⟨rfl,r1,r2⟩;have K:=J4 (Kl.on (J0 K) r2);have R:=J4 r1;clear r1 r2)|(refine(J0 I6 _ (J0 R)).mono ?_;clear I6;rintro e w2 ⟨rfl,r1,r2⟩;have K:=J4 (Kl.on (J0 K) r2);have R:=J4 r1;clear r1 r2)|(refine(J0 I7 _ (J0 R)).mono ?_;clear I7;rintro e w2 ⟨rfl,r1,r2⟩;have K:=J4 (Kl.on (J0 K) r2);have R:=J4 r1;clear r1 r2)));exact bodyPost_ret (v:=.bool true) (by simp[results,Tryz.results93,go_sem]) rfl ⟨by simp,J0 R,J0 K⟩
   | false=>
    cases x3 with
    | true=>
     go_enter Tryz.func93,Tryz.ntmps93;go_wp2_with (first|(go_at_call 94;refine(J0 I0 _ (J0 R)).mono ?_;clear I0;rintro e w2 ⟨rfl,r1,r2⟩;have K:=J4 (Kl.on (J0 K) r2);have R:=J4 r1;clear r1 r2)|(go_at_call 64;first|(refine(J0 I1 _ (J0 R)).mono ?_;clear I1;rintro e w2 ⟨rfl,r1,r2⟩;have K:=J4 (Kl.on (J0 K) r2);have R:=J4 r1;clear r1 r2)|(refine(J0 I2 _ (J0 R)).mono ?_;clear I2;rintro e w2 ⟨rfl,r1,r2⟩;have K:=J4 (Kl.on (J0 K) r2);have R:=J4 r1;clear r1 r2)|(refine(J0 I3 _ (J0 R)).mono ?_;clear I3;rintro e w2 ⟨rfl,r1,r2⟩;have K:=J4 (Kl.on (J0 K) r2);have R:=J4 r1;clear r1 r2)|(refine(J0 I4 _ (J0 R)).mono ?_;clear I4;rintro e w2 ⟨rfl,r1,r2⟩;have K:=J4 (Kl.on (J0 K) r2);have R:=J4 r1;clear r1 r2)|(refine(J0 I5 _ (J0 R)).mono ?_;clear I5;rintro e w2 ⟨rfl,r1,r2⟩;have K:=J4 (Kl.on (J0 K) r2);have R:=J4 r1;clear r1 r2)|(refine(J0 I6 _ (J0 R)).mono ?_;clear I6;rintro e w2 ⟨rfl,r1,r2⟩;have K:=J4 (Kl.on (J0 K) r2);have R:=J4 r1;clear r1 r2)|(refine(J0 I7 _ (J0 R)).mono ?_;clear I7;rintro e w2 ⟨rfl,r1,r2⟩;have K:=J4 (Kl.on (J0 K) r2);have R:=J4 r1;clear r1 r2)));exact bodyPost_ret (v:=.bool true) (by simp[results,Tryz.results93,go_sem]) rfl ⟨by simp,J0 R,J0 K⟩
    | false=>
     cases x4 with
     | true=>
      go_enter Tryz.func93,Tryz.ntmps93;go_wp2_with (first|(go_at_call 94;refine(J0 I0 _ (J0 R)).mono ?_;clear I0;rintro e w2 ⟨rfl,r1,r2⟩;have K:=J4 (Kl.on (J0 K) r2);have R:=J4 r1;clear r1 r2)|(go_at_call 64;first|(refine(J0 I1 _ (J0 R)).mono ?_;clear I1;rintro e w2 ⟨rfl,r1,r2⟩;have K:=J4 (Kl.on (J0 K) r2);have R:=J4 r1;clear r1 r2)|(refine(J0 I2 _ (J0 R)).mono ?_;clear I2;rintro e w2 ⟨rfl,r1,r2⟩;have K:=J4 (Kl.on (J0 K) r2);have R:=J4 r1;clear r1 r2)|(refine(J0 I3 _ (J0 R)).mono ?_;clear I3;rintro e w2 ⟨rfl,r1,r2⟩;have K:=J4 (Kl.on (J0 K) r2);have R:=J4 r1;clear r1 r2)|(refine(J0 I4 _ (J0 R)).mono ?_;clear I4;rintro e w2 ⟨rfl,r1,r2⟩;have K:=J4 (Kl.on (J0 K) r2);have R:=J4 r1;clear r1 r2)|(refine(J0 I5 _ (J0 R)).mono ?_;clear I5;rintro e w2 ⟨rfl,r1,r2⟩;have K:=J4 (Kl.on (J0 K) r2);have R:=J4 r1;clear r1 r2)|(refine(J0 I6 _ (J0 R)).mono ?_;clear I6;rintro e w2 ⟨rfl,r1,r2⟩;have K:=J4 (Kl.on (J0 K) r2);have R:=J4 r1;clear r1 r2)|(refine(J0 I7 _ (J0 R)).mono ?_;clear I7;rintro e w2 ⟨rfl,r1,r2⟩;have K:=J4 (Kl.on (J0 K) r2);have R:=J4 r1;clear r1 r2)));exact bodyPost_ret (v:=.bool true) (by simp[results,Tryz.results93,go_sem]) rfl ⟨by simp,J0 R,J0 K⟩
     | false=>
      cases x5 with
      | true=>
       go_enter Tryz.func93,Tryz.ntmps93;go_wp2_with (first|(go_at_call 94;refine(J0 I0 _ (J0 R)).mono ?_;clear I0;rintro e w2 ⟨rfl,r1,r2⟩;have K:=J4 (Kl.on (J0 K) r2);have R:=J4 r1;clear r1 r2)|(go_at_call 64;first|(refine(J0 I1 _ (J0 R)).mono ?_;clear I1;rintro e w2 ⟨rfl,r1,r2⟩;have K:=J4 (Kl.on (J0 K) r2);have R:=J4 r1;clear r1 r2)|(refine(J0 I2 _ (J0 R)).mono ?_;clear I2;rintro e w2 ⟨rfl,r1,r2⟩;have K:=J4 (Kl.on (J0 K) r2);have R:=J4 r1;clear r1 r2)|(refine(J0 I3 _ (J0 R)).mono ?_;clear I3;rintro e w2 ⟨rfl,r1,r2⟩;have K:=J4 (Kl.on (J0 K) r2);have R:=J4 r1;clear r1 r2)|(refine(J0 I4 _ (J0 R)).mono ?_;clear I4;rintro e w2 ⟨rfl,r1,r2⟩;have K:=J4 (Kl.on (J0 K) r2);have R:=J4 r1;clear r1 r2)|(refine(J0 I5 _ (J0 R)).mono ?_;clear I5;rintro e w2 ⟨rfl,r1,r2⟩;have K:=J4 (Kl.on (J0 K) r2);have R:=J4 r1;clear r1 r2)|(refine(J0 I6 _ (J0 R)).mono ?_;clear I6;rintro e w2 ⟨rfl,r1,r2⟩;have K:=J4 (Kl.on (J0 K) r2);have R:=J4 r1;clear r1 r2)|(refine(J0 I7 _ (J0 R)).mono ?_;clear I7;rintro e w2 ⟨rfl,r1,r2⟩;have K:=J4 (Kl.on (J0 K) r2);have R:=J4 r1;clear r1 r2)));exact bodyPost_ret (v:=.bool true) (by simp[results,Tryz.results93,go_sem]) rfl ⟨by simp,J0 R,J0 K⟩
      | false=>
       cases x6 with
       | true=>
        go_enter Tryz.func93,Tryz.ntmps93;go_wp2_with (first|(go_at_call 94;refine(J0 I0 _ (J0 R)).mono ?_;clear I0;rintro e w2 ⟨rfl,r1,r2⟩;have K:=J4 (Kl.on (J0 K) r2);have R:=J4 r1;clear r1 r2)|(go_at_call 64;first|(refine(J0 I1 _ (J0 R)).mono ?_;clear I1;rintro e w2 ⟨rfl,r1,r2⟩;have K:=J4 (Kl.on (J0 K) r2);have R:=J4 r1;clear r1 r2)|(refine(J0 I2 _ (J0 R)).mono ?_;clear I2;rintro e w2 ⟨rfl,r1,r2⟩;have K:=J4 (Kl.on (J0 K) r2);have R:=J4 r1;clear r1 r2)|(refine(J0 I3 _ (J0 R)).mono ?_;clear I3;rintro e w2 ⟨rfl,r1,r2⟩;have K:=J4 (Kl.on (J0 K) r2);have R:=J4 r1;clear r1 r2)|(refine(J0 I4 _ (J0 R)).mono ?_;clear I4;rintro e w2 ⟨rfl,r1,r2⟩;have K:=J4 (Kl.on (J0 K) r2);have R:=J4 r1;clear r1 r2)|(refine(J0 I5 _ (J0 R)).mono ?_;clear I5;rintro e w2 ⟨rfl,r1,r2⟩;have K:=J4 (Kl.on (J0 K) r2);have R:=J4 r1;clear r1 r2)|(refine(J0 I6 _ (J0 R)).mono ?_;clear I6;rintro e w2 ⟨rfl,r1,r2⟩;have K:=J4 (Kl.on (J0 K) r2);have R:=J4 r1;clear r1 r2)|(refine(J0 I7 _ (J0 R)).mono ?_;clear I7;rintro e w2 ⟨rfl,r1,r2⟩;have K:=J4 (Kl.on (J0 K) r2);have R:=J4 r1;clear r1 r2)));exact bodyPost_ret (v:=.bool true) (by simp[results,Tryz.results93,go_sem]) rfl ⟨by simp,J0 R,J0 K⟩
       | false=>
        cases x7 with
        | true=>
         go_enter Tryz.func93,Tryz.ntmps93;go_wp2_with (first|(go_at_call 94;refine(J0 I0 _ (J0 R)).mono ?_;clear I0;rintro e w2 ⟨rfl,r1,r2⟩;have K:=J4 (Kl.on (J0 K) r2);have R:=J4 r1;clear r1 r2)|(go_at_call 64;first|(refine(J0 I1 _ (J0 R)).mono ?_;clear I1;rintro e w2 ⟨rfl,r1,r2⟩;have K:=J4 (Kl.on (J0 K) r2);have R:=J4 r1;clear r1 r2)|(refine(J0 I2 _ (J0 R)).mono ?_;clear I2;rintro e w2 ⟨rfl,r1,r2⟩;have K:=J4 (Kl.on (J0 K) r2);have R:=J4 r1;clear r1 r2)|(refine(J0 I3 _ (J0 R)).mono ?_;clear I3;rintro e w2 ⟨rfl,r1,r2⟩;have K:=J4 (Kl.on (J0 K) r2);have R:=J4 r1;clear r1 r2)|(refine(J0 I4 _ (J0 R)).mono ?_;clear I4;rintro e w2 ⟨rfl,r1,r2⟩;have K:=J4 (Kl.on (J0 K) r2);have R:=J4 r1;clear r1 r2)|(refine(J0 I5 _ (J0 R)).mono ?_;clear I5;rintro e w2 ⟨rfl,r1,r2⟩;have K:=J4 (Kl.on (J0 K) r2);have R:=J4 r1;clear r1 r2)|(refine(J0 I6 _ (J0 R)).mono ?_;clear I6;rintro e w2 ⟨rfl,r1,r2⟩;have K:=J4 (Kl.on (J0 K) r2);have R:=J4 r1;clear r1 r2)|(refine(J0 I7 _ (J0 R)).mono ?_;clear I7;rintro e w2 ⟨rfl,r1,r2⟩;have K:=J4 (Kl.on (J0 K) r2);have R:=J4 r1;clear r1 r2)));exact bodyPost_ret (v:=.bool true) (by simp[results,Tryz.results93,go_sem]) rfl ⟨by simp,J0 R,J0 K⟩
        | false=>
         go_enter Tryz.func93,Tryz.ntmps93;go_wp2_with (first|(go_at_call 94;refine(J0 I0 _ (J0 R)).mono ?_;clear I0;rintro e w2 ⟨rfl,r1,r2⟩;have K:=J4 (Kl.on (J0 K) r2);have R:=J4 r1;clear r1 r2)|(go_at_call 64;first|(refine(J0 I1 _ (J0 R)).mono ?_;clear I1;rintro e w2 ⟨rfl,r1,r2⟩;have K:=J4 (Kl.on (J0 K) r2);have R:=J4 r1;clear r1 r2)|(refine(J0 I2 _ (J0 R)).mono ?_;clear I2;rintro e w2 ⟨rfl,r1,r2⟩;have K:=J4 (Kl.on (J0 K) r2);have R:=J4 r1;clear r1 r2)|(refine(J0 I3 _ (J0 R)).mono ?_;clear I3;rintro e w2 ⟨rfl,r1,r2⟩;have K:=J4 (Kl.on (J0 K) r2);have R:=J4 r1;clear r1 r2)|(refine(J0 I4 _ (J0 R)).mono ?_;clear I4;rintro e w2 ⟨rfl,r1,r2⟩;have K:=J4 (Kl.on (J0 K) r2);have R:=J4 r1;clear r1 r2)|(refine(J0 I5 _ (J0 R)).mono ?_;clear I5;rintro e w2 ⟨rfl,r1,r2⟩;have K:=J4 (Kl.on (J0 K) r2);have R:=J4 r1;clear r1 r2)|(refine(J0 I6 _ (J0 R)).mono ?_;clear I6;rintro e w2 ⟨rfl,r1,r2⟩;have K:=J4 (Kl.on (J0 K) r2);have R:=J4 r1;clear r1 r2)|(refine(J0 I7 _ (J0 R)).mono ?_;clear I7;rintro e w2 ⟨rfl,r1,r2⟩;have K:=J4 (Kl.on (J0 K) r2);have R:=J4 r1;clear r1 r2)));exact bodyPost_ret (v:=.bool false) (by simp[results,Tryz.results93,go_sem]) rfl ⟨by simp,J0 R,J0 K⟩
end Go.Proofs.YtdamlfkieecnjaaGreatDoor
