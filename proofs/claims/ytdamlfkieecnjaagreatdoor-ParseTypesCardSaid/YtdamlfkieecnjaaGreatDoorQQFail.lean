import Derived.Test.YtdamlfkieecnjaaGreatDoorQPTok7
import Derived.Deep.RegionHeld3
set_option maxHeartbeats 1000000
set_option maxRecDepth 100000
namespace Go.Proofs.YtdamlfkieecnjaaGreatDoor
open Go Go.RowKit Lx
theorem TkAt.tok {b:Nat} {W:World} {p:Option Addr} {n c i:Nat} {ts:List Tok} {t:Tok} (h:TkAt b W (.slice p n c) ts) (ht:ts[i]?=some t):∃g o,p=some ⟨g,o,none⟩/\W.cell? ⟨g,o+i*4,none⟩=some (.int .i64 (t.1:Int))/\W.cell? ⟨g,o+i*4+1,none⟩=some (.int .i64 t.2.1)/\W.cell? ⟨g,o+i*4+2,none⟩=some (.string ⟨t.2.2.1.toArray⟩)/\W.cell? ⟨g,o+i*4+3,none⟩=some (.int .i64 t.2.2.2):=by
 obtain⟨q,c',e,hq⟩:=h.here;injection e with e1 e2 e3
 subst e1;obtain⟨g,o,rfl,h0,h1,h2,h3⟩:=hq i t ht;exact⟨g,o,rfl,h0,h1,h2,h3⟩
theorem zdy {ts:List Tok} {i:Nat} {t:Tok} (h:ts[i]?=some t):ts.drop i=t::ts.drop (i+1):=by
 obtain⟨h1,h2⟩:=List.getElem?_eq_some_iff.1 h;rw[List.drop_eq_getElem_cons h1,h2]
theorem TkAt.low {b:Nat} {W:World} {g o n c:Nat} {ts:List Tok} {i:Nat} {t:Tok} (h:TkAt b W (.slice (some ⟨g,o,none⟩) n c) ts) (ht:ts[i]?=some t):g<b:=by
 rcases Nat.lt_or_ge g b with e|e
 ·exact e
 exfalso;obtain⟨q,c',e1,hq⟩:=h.2.2 { W with heap:=W.heap.extract 0 b } (fun k hk=>by
  show(W.heap.extract 0 b)[k]?=_;rw[Array.getElem?_extract];simp;intro;omega)
 obtain⟨g',o',e2,h0,-⟩:=hq i t ht;injection e1 with e1
 subst e1;injection e2 with e2
 injection e2 with e2 e3
 subst e2;have:({ W with heap:=W.heap.extract 0 b }:World).heap[g]?=none:=by
  show(W.heap.extract 0 b)[g]?=_;rw[Array.getElem?_extract];simp;omega
 simp[World.cell?,this]at h0
theorem zdv (b:Nat) (en:Int) (ts:List Tok) (s:RS) (k:Int) (hk:k≠0):Rdq b en ts 71 #[rp b,.int .i64 k] s (zbk en k s) (.tuple #[]):=fun w h=>by
 obtain⟨i,y,a,hq,rfl⟩:=h;have hl:=hq.lt;obtain⟨p,c,h1,h2,h3⟩:=id hq;obtain⟨⟨c0,c1,c2,c3,c4⟩,cf⟩:=zc0 h1;by_cases hy:y=0
 ·subst hy
  cases ht:ts[i]? with
  | some t=>
   obtain⟨g,o,rfl,t0,-,-,-⟩:=h2.tok ht;have hi:i<ts.length:=(List.getElem?_eq_some_iff.1 ht).1;have hi2:(i:Int)<(ts.length:Int):=by omega
   have e1:zbk en k (qs ts i 0 a)=qs ts i k t.1:=by simp[zbk,qs,zdy ht,zbv,hk]
   rw[e1];have HQ:=J4 hq;have H1:=J4 h1;have HT:=J4 h2;clear hq h1 h2 e1;go_enter Tryz.func71,Tryz.ntmps71;go_wp2;obtain⟨W1,hW1⟩:∃W1:World,W1=w.setCell ⟨b,3,none⟩ (.int .i64 k):=⟨_,rfl⟩
   have n1:W1.heap[b]?=some (.cells #[.slice (some ⟨g,o,none⟩) ts.length c,.int .i64 en,.int .i64 (i:Int),.int .i64 k,.int .i64 a] qT):=by rw[hW1];exact Ja (i:=3) (J0 H1) (.int .i64 k)
   have hgb:g<b:=(J0 HT).low ht;have u0:W1.cell? ⟨g,o+i*4,none⟩=some (.int .i64 (t.1:Int)):=by rw[hW1];exact(World.cell?_of_block (Below.heap_setCell _ _ _ _ (by show g≠b;omega))).trans t0
   obtain⟨⟨d0,d1,d2,d3,d4⟩,df⟩:=zc0 n1;have HW1:=J4 hW1;rw[<-hW1];clear c0 c1 c2 c3 c4 cf t0 hW1;go_quiet (fail);have hdec:decide (ts.length<=i)=false:=by simp;omega
   (try simp only[hdec])
   obtain⟨W2,hW2⟩:∃W2:World,W2=W1.drewN nq:=⟨_,rfl⟩
   rw[<-hW2];have u0':W2.cell? ⟨g,o+i*4,none⟩=some (.int .i64 (t.1:Int)):=by rw[hW2];exact u0
   have n1':W2.heap[b]?=some (.cells #[.slice (some ⟨g,o,none⟩) ts.length c,.int .i64 en,.int .i64 (i:Int),.int .i64 k,.int .i64 a] qT):=by rw[hW2];exact n1
   obtain⟨⟨c0,c1,c2,c3,c4⟩,cf⟩:=zc0 n1';have HW2:=J4 hW2;have N1:=J4 n1';clear u0 d0 d1 d2 d3 d4 df hW2 n1 n1' hdec;have q0:∀v,(W2.setCell ⟨b,4,none⟩ v).cell? ⟨b,0,none⟩=some (.slice (some ⟨g,o,none⟩) ts.length c):=fun v=>(zc0 (Ja (i:=4) (J0 N1) v)).1.1
   have q2:∀v,(W2.setCell ⟨b,4,none⟩ v).cell? ⟨b,2,none⟩=some (.int .i64 (i:Int)):=fun v=>(zc0 (Ja (i:=4) (J0 N1) v)).1.2.2.1
   have qg:∀v,(W2.setCell ⟨b,4,none⟩ v).cell? ⟨g,o+i*4,none⟩=some (.int .i64 (t.1:Int)):=fun v=>(World.cell?_of_block (Below.heap_setCell _ _ _ _ (by show g≠b;omega))).trans u0'
   have Q0:=J4 q0;have Q2:=J4 q2;have QG:=J4 qg;clear q0 q2 qg;go_upto_region 5 with fail
   go_region_held3 (fun V=>V.cell? ⟨b,0,none⟩=some (.slice (some ⟨g,o,none⟩) ts.length c)/\V.cell? ⟨b,2,none⟩=some (.int .i64 (i:Int))/\V.cell? ⟨g,o+i*4,none⟩=some (.int .i64 (t.1:Int))) (first|exact⟨J0 Q0 _,J0 Q2 _,J0 QG _⟩|go_keep) (fail)
   have hk1:Kx b w W2:=by rw[J0 HW2,J0 HW1];exact((Kl.refl _ _ _).set _).drewN nq
   exact bodyPost_end (v:=.tuple #[]) (by simp[results,Tryz.results71,go_sem]) rfl ⟨rfl,⟨i,k,t.1,⟨some ⟨g,o,none⟩,c,Ja (i:=4) (J0 N1) _,(J0 HT).keep ((hk1.set _).drew).1,h3⟩,rfl⟩,(hk1.set _).drew⟩
  | none=>
   have hi:ts.length<=i:=List.getElem?_eq_none_iff.1 ht;have hie:i=ts.length:=by omega
   have hdp:ts.drop i=[]:=List.drop_eq_nil_of_le hi;have e1:zbk en k (qs ts i 0 a)=qs ts i 14 en:=by simp[zbk,qs,hdp,zbv]
   rw[e1];have hi2:(ts.length:Int)<=(i:Int):=by omega
   have HQ:=J4 hq;have H1:=J4 h1;have HT:=J4 h2;clear hq h1 h2 e1 hie;go_enter Tryz.func71,Tryz.ntmps71;go_wp2;obtain⟨W1,hW1⟩:∃W1:World,W1=w.setCell ⟨b,3,none⟩ (.int .i64 k):=⟨_,rfl⟩
   have n1:W1.heap[b]?=some (.cells #[.slice p ts.length c,.int .i64 en,.int .i64 (i:Int),.int .i64 k,.int .i64 a] qT):=by rw[hW1];exact Ja (i:=3) (J0 H1) (.int .i64 k)
   obtain⟨⟨d0,d1,d2,d3,d4⟩,df⟩:=zc0 n1;have HW1:=J4 hW1;rw[<-hW1];clear c0 c1 c2 c3 c4 cf hW1;go_quiet (fail);have hdec:decide (ts.length<=i)=true:=by simp;omega
   (try simp only[hdec])
   obtain⟨W2,hW2⟩:∃W2:World,W2=W1.drewN nq:=⟨_,rfl⟩
   rw[<-hW2];have n1':W2.heap[b]?=some (.cells #[.slice p ts.length c,.int .i64 en,.int .i64 (i:Int),.int .i64 k,.int .i64 a] qT):=by rw[hW2];exact n1
   obtain⟨⟨c0,c1,c2,c3,c4⟩,cf⟩:=zc0 n1';have HW2:=J4 hW2;have N1:=J4 n1';clear d0 d1 d2 d3 d4 df hW2 n1 n1' hdec;go_wp2;have hk1:Kx b w W2:=by rw[J0 HW2,J0 HW1];exact((Kl.refl _ _ _).set _).drewN nq
   exact bodyPost_ret (v:=.tuple #[]) (by simp[results,Tryz.results71,go_sem]) rfl ⟨rfl,⟨i,14,en,⟨p,c,Ja (i:=4) (Ja (i:=3) (J0 N1) _) _,(J0 HT).keep ((hk1.set _).set _).1,h3⟩,rfl⟩,(hk1.set _).set _⟩
 ·have e1:zbk en k (qs ts i y a)=qs ts i y a:=by simp[zbk,qs,hy,zbv]
  rw[e1];have HQ:=J4 hq;clear hq h1 h2 e1;go_enter Tryz.func71,Tryz.ntmps71;go_wp2;exact bodyPost_ret (v:=.tuple #[]) (by simp[results,Tryz.results71,go_sem]) rfl ⟨rfl,⟨i,y,a,J0 HQ,rfl⟩,Kl.refl _ _ _⟩
end Go.Proofs.YtdamlfkieecnjaaGreatDoor
