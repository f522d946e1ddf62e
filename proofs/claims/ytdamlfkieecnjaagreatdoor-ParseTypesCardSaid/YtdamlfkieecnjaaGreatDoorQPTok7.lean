import Derived.Test.YtdamlfkieecnjaaGreatDoorQPToks
import Derived.Deep.DeepCutAuto
set_option maxHeartbeats 1000000
set_option maxRecDepth 100000
namespace Go.Proofs.YtdamlfkieecnjaaGreatDoor
open Go Go.RowKit Lx
theorem zar (w:World) (o:Obj) {k:Nat} (h:k=w.heap.size):(w.alloc o).heap[k]?=some o:=by subst h;exact J6 w o
theorem J9 (w:World) (o:Obj) {k:Nat} (h:k<w.heap.size):(w.alloc o).heap[k]?=w.heap[k]?:=Below.heap_alloc w o k h
theorem rd_set {b:Nat} {T:TypeId} {en:Int} {W:World} {v v' q:Value} {ts:List Tok} {r:Option (Int×Int)} (hb:W.heap[b]?=some (.cells #[v,.int .i64 en,q] T)) (ht:TkAt b W v' ts) (hr:RfAt b W q r):RdAt b T en (ts,r) (W.setCell ⟨b,0,none⟩ v'):=
 have hx:Kx b W (W.setCell ⟨b,0,none⟩ v'):=(Kl.refl _ _ _).set _
 ⟨v',q,(Ja hb v').trans rfl,ht.kept hx,hr.kept hx⟩
theorem zb2 {w:World} (o:Obj):Below w.heap.size w (w.alloc o):=(Below.refl _ _).alloc (Nat.le_refl _) o
theorem bel2 {w w1:World} {o o':Obj} (h:Below (w.alloc o).heap.size (w.alloc o) w1):Below w.heap.size w (w1.alloc o'):=((zb2 o).trans (h.mono (by simp))).alloc (by have:=h.size;simp at this;omega) _
theorem zbl (b:Nat) (T:TypeId) (en:Int) (s:RS) (a y:Int):Rdr b T en 149 #[rp b,.int .i64 a,.int .i64 y] s (zbv s a y) (.tuple #[]):=fun w h=>by
 obtain⟨p,c,q,hb,h1,h2,h3,ht,hr⟩:=h.open;obtain⟨⟨c0,c1,c2⟩,hf⟩:=box3 hb;have hf0:=hf 0;have hf2:=hf 2;have hl:=h.lt;have hsz:w.heap.size≠b:=by omega
 rcases hs:s.2 with _|r
 ·rw[hs]at hr;obtain rfl:=hr;have HP:Hid (zbv s a y=([],some (a,y))):=by show _=_;simp[zbv,hs]
  have HB:=J4 hb;clear hs h1 h3 hb ht h hf;go_enter Tryz.func149,Tryz.ntmps149;go_wp2;refine bodyPost_end (v:=.tuple #[]) (by simp[results,Tryz.results149,go_sem]) rfl ⟨rfl,?_,(((Kl.refl _ _ _).set _).set _).alloc (by omega) (by simp) _⟩;rw[J0 HP];exact⟨_,_,(J9 _ _ (by simp;omega)).trans (Ja (Ja (J0 HB) _) _),TkAt.nil _ _,w.heap.size,rfl,hsz,by simp,zar _ _ (by simp)⟩
 ·rw[hs]at hr;have HP:Hid (zbv s a y=([],some r)):=by show _=_;simp[zbv,hs]
  have HB:=J4 hb;have HR:=J4 hr;obtain⟨k,rfl,hk1,hk2,hk3⟩:=hr;clear hs h1 h3 hb ht h hf hk3;go_enter Tryz.func149,Tryz.ntmps149;go_wp2;refine bodyPost_end (v:=.tuple #[]) (by simp[results,Tryz.results149,go_sem]) rfl ⟨rfl,?_,(Kl.refl _ _ _).set _⟩;rw[J0 HP];exact rd_set (J0 HB) (TkAt.nil _ _) (J0 HR)
theorem takenB {w w1:World} {o:Obj} (h:Below (w.alloc o).heap.size (w.alloc o) w1) (a b c d:Value) (o':Obj):Below w.heap.size w (((((w1.setCell ⟨w.heap.size,0,none⟩ a).setCell ⟨w.heap.size,1,none⟩ b).setCell ⟨w.heap.size,2,none⟩ c).setCell ⟨w.heap.size,3,none⟩ d).alloc o'):=
 have hs:w.heap.size<=w1.heap.size:=by have:=h.size;simp at this;omega
 ((((((zb2 o).trans (h.mono (by simp))).setCell (p:=⟨w.heap.size,0,none⟩) (Nat.le_refl _) _).setCell (p:=⟨w.heap.size,1,none⟩) (Nat.le_refl _) _).setCell (p:=⟨w.heap.size,2,none⟩) (Nat.le_refl _) _).setCell (p:=⟨w.heap.size,3,none⟩) (Nat.le_refl _) _).alloc (by simpa using hs) _
theorem takenK {w w1:World} {o:Obj} {b:Nat} (h:Below (w.alloc o).heap.size (w.alloc o) w1) (hl:b<w.heap.size) (z a c d e:Value) (o':Obj):Kx b w ((((((w1.setCell ⟨b,0,none⟩ z).setCell ⟨w.heap.size,0,none⟩ a).setCell ⟨w.heap.size,1,none⟩ c).setCell ⟨w.heap.size,2,none⟩ d).setCell ⟨w.heap.size,3,none⟩ e).alloc o'):=
 have hs:w.heap.size<=w1.heap.size:=by have:=h.size;simp at this;omega
 have h0:Kx b w w1:=.of_below ((zb2 o).trans (h.mono (by simp))) (Nat.le_of_lt hl);have hb:=Nat.le_of_lt hl
 (((((h0.set z).setHigh hb (Nat.le_refl _) a).setHigh hb (Nat.le_refl _) c).setHigh hb (Nat.le_refl _) d).setHigh hb (Nat.le_refl _) e).alloc hb (by simpa using hs) o'
theorem taken {w w1:World} {o:Obj} {b g i n cc:Nat} {T:TypeId} {en:Int} {t:Tok} {ts:List Tok} {r:Option (Int×Int)} {q:Value} {p:Option Addr} (h:Below (w.alloc o).heap.size (w.alloc o) w1) (hl:b<w.heap.size) (hb:w.heap[b]?=some (.cells #[.slice (some ⟨g,i,none⟩) n cc,.int .i64 en,q] T)) (ht:TkAt b w (.slice (some ⟨g,i,none⟩) n cc) (t::ts)) (hr:RfAt b w q r) (hp:p=some ⟨g,i+4,none⟩∨ts=[]) (a c d e:Value) (o':Obj) :
  RdAt b T en (ts,r) ((((((w1.setCell ⟨b,0,none⟩ (.slice p ts.length (cc-1))).setCell ⟨w.heap.size,0,none⟩ a).setCell ⟨w.heap.size,1,none⟩ c).setCell ⟨w.heap.size,2,none⟩ d).setCell ⟨w.heap.size,3,none⟩ e).alloc o'):=by
 have hs:w.heap.size<=w1.heap.size:=by have:=h.size;simp at this;omega
 have hx:=takenK h hl (.slice p ts.length (cc-1)) a c d e o';have hne:b≠w.heap.size:=by omega
 refine⟨_,q,(J9 _ _ (by simp;omega)).trans ?_,ht.rest hx hp,hr.kept hx⟩;rw[Below.heap_setCell _ _ _ _ hne,Below.heap_setCell _ _ _ _ hne,Below.heap_setCell _ _ _ _ hne,Below.heap_setCell _ _ _ _ hne];exact Ja ((h.block b (by simp;omega)).trans ((J9 _ _ hl).trans hb)) _
theorem JP (b:Nat) (T:TypeId) (en:Int) (s:RS):Rdr b T en 88 #[rp b] s (J7 s) (zcx (J5 s)):=fun w h=>by
 obtain⟨p,c,q,hb,h1,h2,h3,ht,hr⟩:=h.open;have hl:=h.lt;have PK:=J4 (zd1 b T en s _ (h.alloc tkO));have HR:Hid (∀V,Below w.heap.size w V->RdAt b T en s V):=fun V hV=>h.below hV
 obtain⟨⟨c0,c1,c2⟩,hf⟩:=box3 hb;have hf0:=hf 0;have LF:=J4 (zcd b T en s);clear h hf c1 c2;rcases hs:s.1 with _|⟨t,ts⟩
 ·have HP:Hid (J7 s=s):=by show _=_;simp[J7,hs,Prod.ext_iff]
  have hL:zap s=false:=by simp[zap,hs]
  rw[hL]at LF;clear hs ht hb hL hr h1 h3;go_enter Tryz.func88,Tryz.ntmps88;go_wp2_with (first|(go_at_call 116;refine(J0 PK).mono ?_;clear PK;rintro e w1 ⟨rfl,hb1⟩;have HB1:=J4 hb1;have hz1:w.heap.size<w1.heap.size:=(by have:=hb1.size;simp at this;omega);have hz2:b<w1.heap.size:=(by omega);obtain⟨hc1,hm1⟩:=JS hb1;clear hb1)|(go_at_call 84;refine(J0 LF _ (J0 HR _ (bel2 (J0 HB1)))).mono ?_;clear LF;rintro e w2 ⟨rfl,rfl⟩));exact bodyPost_ret (v:=zcx (J5 s)) (by simp[results,Tryz.results88,go_sem,hz1,hc1,tkO]) rfl ⟨rfl,by rw[J0 HP];exact J0 HR _ (takenB (J0 HB1) _ _ _ _ _),.of_below (takenB (J0 HB1) _ _ _ _ _) (Nat.le_of_lt hl)⟩
 ·have HP:Hid (J7 s=(ts,s.2)):=by show _=_;simp[J7,hs]
  have hL:zap s=true:=by simp[zap,hs]
  rw[hs]at c0 ht h1 h3 hb;obtain⟨g,o,rfl,-,-,-,-⟩:=ht.first;have HT:=J4 ht;have HB:=J4 hb;have HF:=J4 hr;rw[hL]at LF;obtain⟨n,hn⟩:∃n,n=(t::ts).length:=⟨_,rfl⟩
  have HN:Hid (ts.length=n-1):=by show _=_;rw[hn];simp
  rw[<-hn]at c0 h1 h3 HT HB;have q2:1<=n:=by rw[hn];simp
  have q1:(1:Int)<=(n:Int):=by omega
  have q3:(n:Int)<=(c:Int):=by omega
  have hne:w.heap.size≠b:=by omega
  clear hs ht hb hL hr hn;by_cases hc1:c=1
  ·subst hc1;obtain rfl:n=1:=by omega
   clear q1 q2 q3 h1 h3 h2;go_enter Tryz.func88,Tryz.ntmps88;go_wp2_with (first|(go_at_call 116;refine(J0 PK).mono ?_;clear PK;rintro e w1 ⟨rfl,hb1⟩;have HB1:=J4 hb1;have hz1:w.heap.size<w1.heap.size:=(by have:=hb1.size;simp at this;omega);have hz2:b<w1.heap.size:=(by omega);obtain⟨hc1,hm1⟩:=JS hb1;clear hb1)|(go_at_call 84;refine(J0 LF _ (J0 HR _ (bel2 (J0 HB1)))).mono ?_;clear LF;rintro e w2 ⟨rfl,rfl⟩));have h0:ts=[]:=List.eq_nil_of_length_eq_zero (J0 HN);exact bodyPost_ret (v:=zcx (J5 s)) (by simp[results,Tryz.results88,go_sem,hz1,hc1,tkO]) rfl ⟨rfl,by
    rw[J0 HP,h0];rw[h0]at HT;exact taken (J0 HB1) hl (J0 HB) (J0 HT) (J0 HF) (.inr rfl) _ _ _ _ _,takenK (J0 HB1) hl _ _ _ _ _ _⟩
  ·have q4:1<c:=by omega
   have q5:¬(c:Int)=1:=by omega
   have q6:((c:Int)==1)=false:=beq_eq_false_iff_ne.2 q5;clear h2 hc1;have q7:(0:Int)<(n:Int):=by omega
   go_enter Tryz.func88,Tryz.ntmps88;go_upto_region 4 with(first|(go_at_call 116;refine(J0 PK).mono ?_;clear PK;rintro e w1 ⟨rfl,hb1⟩;have HB1:=J4 hb1;have hz1:w.heap.size<w1.heap.size:=(by have:=hb1.size;simp at this;omega);have hz2:b<w1.heap.size:=(by omega);obtain⟨hc1,hm1⟩:=JS hb1;clear hb1)|(go_at_call 84;refine(J0 LF _ (J0 HR _ (bel2 (J0 HB1)))).mono ?_;clear LF;rintro e w2 ⟨rfl,rfl⟩))
   obtain⟨W,hW⟩:∃W,W=w1.setCell ⟨b,0,none⟩ (.slice (some ⟨g,o+4,none⟩) (n-1) (c-1)):=⟨_,rfl⟩
   have y0:∀i,W.cell? ⟨w.heap.size,i,none⟩=(w.alloc tkO).cell? ⟨w.heap.size,i,none⟩:=fun i=>by
    rw[hW,World.cell?_of_block (Below.heap_setCell w1 _ _ w.heap.size hne)];exact hc1 _ _ (by simp)
   have y1:∀i,W.frozen? ⟨w.heap.size,i,none⟩=false:=fun i=>by
    rw[hW,World.frozen?_of_block (Below.heap_setCell w1 _ _ w.heap.size hne),hm1 _ _ (by simp)];exact Lib.frozen_of_heap (J6 w tkO) i
   have y2:w.heap.size<W.heap.size:=by rw[hW];simpa using hz1
   have ez:W.heap.size=w1.heap.size:=by rw[hW];simp
   rw[<-hW,<-ez];have HW:=J4 hW;clear hW ez q1 q2 q3 q4 q5 q6 q7 h1 h3 hc1 hm1 hz1 hz2 c0 hf0;go_wp2;exact bodyPost_ret (v:=zcx (J5 s)) (by simp[results,Tryz.results88,go_sem,y2,y0,tkO]) rfl ⟨rfl,by
    rw[J0 HP,J0 HW,<-J0 HN];exact taken (J0 HB1) hl (J0 HB) (J0 HT) (J0 HF) (.inl rfl) _ _ _ _ _,by rw[J0 HW];exact takenK (J0 HB1) hl _ _ _ _ _ _⟩
end Go.Proofs.YtdamlfkieecnjaaGreatDoor
namespace Go.Proofs.YtdamlfkieecnjaaGreatDoor
open Go Go.RowKit Lx
abbrev qT:TypeId:=109
def QAt (b:Nat) (en:Int) (ts:List Tok) (i:Nat) (y a:Int) (W:World):Prop:=
 ∃p c,W.heap[b]?=some (.cells #[.slice p ts.length c,.int .i64 en,.int .i64 (i:Int),.int .i64 y,.int .i64 a] qT)/\TkAt b W (.slice p ts.length c) ts/\i<=ts.length
def qs (ts:List Tok) (i:Nat) (y a:Int):RS:=if y=0 then(ts.drop i,none)else([],some (a,y))
def RqAt (b:Nat) (en:Int) (ts:List Tok) (s:RS) (W:World):Prop:=∃i y a,QAt b en ts i y a W/\s=qs ts i y a
def Rdq (b:Nat) (en:Int) (ts:List Tok) (F:FuncId) (args:Array Value) (s s':RS) (v:Value):Prop:=
 ∀w,RqAt b en ts s w->Calls Tryz.prog F args w fun e w'=>e=.returned v/\RqAt b en ts s' w'/\Kx b w w'
def zbk (en:Int) (k:Int) (s:RS):RS:=match s.1 with| []=>zbv s en 14|t::_=>zbv s t.1 k
theorem zbp (en:Int) (s:RS):zbk en 13 s=Jb en s:=rfl
theorem QAt.lt {b:Nat} {en:Int} {ts:List Tok} {i:Nat} {y a:Int} {W:World} (h:QAt b en ts i y a W):b<W.heap.size:=by
 obtain⟨p,c,h,-⟩:=h;exact(Array.getElem?_eq_some_iff.1 h).1
theorem QAt.kept {b:Nat} {en:Int} {ts:List Tok} {i:Nat} {y a:Int} {W W':World} (h:QAt b en ts i y a W) (hx:Kx b W W') (hb:W'.heap[b]?=W.heap[b]?):QAt b en ts i y a W':=by
 obtain⟨p,c,h1,h2,h3⟩:=h;exact⟨p,c,hb.trans h1,h2.kept hx,h3⟩
theorem RqAt.kept {b:Nat} {en:Int} {ts:List Tok} {s:RS} {W W':World} (h:RqAt b en ts s W) (hx:Kx b W W') (hb:W'.heap[b]?=W.heap[b]?):RqAt b en ts s W':=by
 obtain⟨i,y,a,h,e⟩:=h;exact⟨i,y,a,h.kept hx hb,e⟩
theorem RqAt.lt {b:Nat} {en:Int} {ts:List Tok} {s:RS} {W:World} (h:RqAt b en ts s W):b<W.heap.size:=by
 obtain⟨i,y,a,h,e⟩:=h;exact h.lt
theorem RqAt.below {b:Nat} {en:Int} {ts:List Tok} {s:RS} {W W':World} (h:RqAt b en ts s W) (hb:Below W.heap.size W W'):RqAt b en ts s W':=h.kept (.of_below hb (Nat.le_of_lt h.lt)) (hb.block _ h.lt)
theorem RqAt.alloc {b:Nat} {en:Int} {ts:List Tok} {s:RS} {W:World} (h:RqAt b en ts s W) (o:Obj):RqAt b en ts s (W.alloc o):=h.below ((Below.refl _ _).alloc (Nat.le_refl _) o)
theorem RqAt.drew {b:Nat} {en:Int} {ts:List Tok} {s:RS} {W:World} (h:RqAt b en ts s W):RqAt b en ts s W.drew:=h.below (Below.refl _ _).drew
theorem RqAt.put {b j:Nat} {en:Int} {ts:List Tok} {s:RS} {W:World} (h:RqAt b en ts s W) (hb:b<j) (i:Nat) (u:Value):RqAt b en ts s (W.setCell ⟨j,i,none⟩ u):=by
 obtain⟨i0,y,a,⟨p,c,h1,h2,h3⟩,e⟩:=h;exact⟨i0,y,a,⟨p,c,(Below.heap_setCell _ _ _ _ (by show b≠j;omega)).trans h1,h2.keep ((Below.refl _ _).setCell (p:=⟨j,i,none⟩) (by show b<=j;omega) u),h3⟩,e⟩
theorem zc0 {W:World} {b:Nat} {T:TypeId} {x y z u v:Value} (h:W.heap[b]?=some (.cells #[x,y,z,u,v] T)):(W.cell? ⟨b,0,none⟩=some x/\W.cell? ⟨b,1,none⟩=some y/\W.cell? ⟨b,2,none⟩=some z/\W.cell? ⟨b,3,none⟩=some u/\W.cell? ⟨b,4,none⟩=some v)/\∀i,W.frozen? ⟨b,i,none⟩=false:=
 ⟨⟨(Lib.cell_of_heap h 0).trans rfl,(Lib.cell_of_heap h 1).trans rfl,(Lib.cell_of_heap h 2).trans rfl,(Lib.cell_of_heap h 3).trans rfl,(Lib.cell_of_heap h 4).trans rfl⟩,fun i=>Lib.frozen_of_heap h i⟩
end Go.Proofs.YtdamlfkieecnjaaGreatDoor
namespace Go.Proofs.YtdamlfkieecnjaaGreatDoor
open Go Go.RowKit Lx
theorem zf2 (ms:List Bs) (s:Bs):Lib.containsS ((ms.map fun m=>(⟨m.toArray⟩:ByteArray)).take ms.length) ⟨s.toArray⟩=ms.contains s:=by
 rw[Bool.eq_iff_iff,Lib.containsS_iff,List.take_of_length_le (by simp)];simp only[List.mem_map,List.contains_iff_mem]
 constructor
 ·rintro⟨m,hm,e⟩;have:m.toArray=s.toArray:=congrArg ByteArray.data e;rwa[<-show m=s by simpa using this]
 ·exact fun h=>⟨s,h,rfl⟩
theorem field_place (a b c d:Value) (w:World):Sem.run Tryz.prog (Instr.field 174 (.agg #[a,b,c,d]) 0) w=.ok (.agg #[a]) w:=by
 simp[Instr.field,go_sem,asAgg]
theorem zei (a:Int) (w:World):Calls Tryz.prog 48 #[.agg #[.int .i64 a]] w fun e w'=>e=.returned (.int .i64 a)/\Below w.heap.size w w':=by
 go_enter Tryz.func48,Tryz.ntmps48;go_wp2;go_ret;exact⟨rfl,(Below.refl _ _).alloc (Nat.le_refl _) _⟩
theorem zbg (b:Nat) (T:TypeId) (en:Int) (s:RS):Rdr b T en 85 #[rp b] s (Jb en s) (.tuple #[]):=fun w h=>by
 have hl:=h.lt;obtain⟨p,c,q,hb,-,-,-,-,-⟩:=h.open;obtain⟨⟨-,c1,-⟩,-⟩:=box3 hb;have LF:=J4 (zcd b T en s w h);have HR:=J4 h;clear hb;rcases hs:s.1 with _|⟨t,ts⟩
 ·have HP:Hid (Jb en s=zbv s en 14):=by show _=_;simp[Jb,hs]
  have hL:zap s=false:=by simp[zap,hs]
  have RF:=J4 (zbl b T en s en 14 w h);rw[hL]at LF;clear hs hL h;go_enter Tryz.func85,Tryz.ntmps85;go_wp2_with (first|(go_at_call 84;refine(J0 LF).mono ?_;clear LF;rintro e w2 ⟨rfl,rfl⟩)|(go_at_call 149;refine(J0 RF).mono ?_;clear RF;rintro e w2 ⟨rfl,r1,r2⟩));exact bodyPost_end (v:=.tuple #[]) (by simp[results,Tryz.results85,go_sem]) rfl ⟨rfl,by rw[J0 HP];exact r1,r2⟩
 ·have HP:Hid (Jb en s=zbv s (J5 s).1 13):=by show _=_;simp[Jb,J5,hs]
  have hL:zap s=true:=by simp[zap,hs]
  have PK:=J4 (zd1 b T en s w h);dsimp only[zcx]at PK;have hfp:=field_place;have RF:Hid (∀V,Below w.heap.size w V->Calls Tryz.prog 149 #[rp b,.int .i64 ((J5 s).1:Int),.int .i64 13] V fun e w'=>e=.returned (.tuple #[])/\RdAt b T en (zbv s (J5 s).1 13) w'/\Kx b V w'):=fun V hV=>zbl b T en s _ 13 V (h.below hV)
  rw[hL]at LF;clear hs hL h;go_enter Tryz.func85,Tryz.ntmps85;go_wp2_with (first|(go_at_call 84;refine(J0 LF).mono ?_;clear LF;rintro e w2 ⟨rfl,rfl⟩)|(go_at_call 116;refine(J0 PK).mono ?_;clear PK;rintro e w1 ⟨rfl,hb1⟩;have HB1:=J4 hb1;clear hb1)|(go_at_call 48;refine(zei _ _).mono ?_;rintro e w3 ⟨rfl,hb3⟩;have HB3:=J4 ((J0 HB1).trans (hb3.mono (J0 HB1).size));clear hb3)|(go_at_call 149;refine(J0 RF _ (J0 HB3)).mono ?_;clear RF;rintro e w2 ⟨rfl,r1,r2⟩));exact bodyPost_end (v:=.tuple #[]) (by simp[results,Tryz.results85,go_sem]) rfl ⟨rfl,by rw[J0 HP];exact r1,Kl.on (.of_below (J0 HB3) (Nat.le_of_lt hl)) r2⟩
theorem marked_any (t:Tok) (w:World):Calls Tryz.prog 172 #[zcx t] w fun e w'=>e=.returned (.bool (zcr t))/\Below w.heap.size w w':=by
 obtain⟨a,k,s,n⟩:=t;have HM:Hid (zcr (a,k,s,n)=(k==6||k==3)):=rfl;by_cases h6:k=6
 ·subst h6;go_enter Tryz.func172,Tryz.ntmps172;go_wp2;go_ret;exact⟨by rw[J0 HM];rfl,(Below.refl _ _).alloc (Nat.le_refl _) _⟩
 ·have e6:(k==6)=false:=beq_eq_false_iff_ne.2 h6;by_cases h3:k=3
  ·subst h3;go_enter Tryz.func172,Tryz.ntmps172;go_wp2;go_ret;exact⟨by rw[J0 HM];rfl,(Below.refl _ _).alloc (Nat.le_refl _) _⟩
  ·have e3:(k==3)=false:=beq_eq_false_iff_ne.2 h3;go_enter Tryz.func172,Tryz.ntmps172;go_wp2;go_ret;exact⟨by rw[J0 HM,e6,e3];rfl,(Below.refl _ _).alloc (Nat.le_refl _) _⟩
def MsAt (W:World) (g:Nat) (ms:List Bs):Prop:=∀j,j<ms.length->W.cell? ⟨g,j,none⟩=some (.string ⟨(ms.getD j []).toArray⟩)
theorem isMark_any (t:Tok) (g n:Nat) (ms:List Bs) (w:World) (hn:ms.length=n) (hl:n<=1000) (hg:g<w.heap.size) (hm:MsAt w g ms):Calls Tryz.prog 117 #[zcx t,.slice (some ⟨g,0,none⟩) n n] w fun e w'=>e=.returned (.bool (isM t ms))/\Below w.heap.size w w':=by
 have MK:Hid (∀V,Calls Tryz.prog 172 #[zcx t] V fun e w'=>e=.returned (.bool (zcr t))/\Below V.heap.size V w'):=fun V=>marked_any t V
 have CT:Hid (∀V,Below w.heap.size w V->Calls Tryz.prog 173 #[.slice (some ⟨g,0,none⟩) n n,.string ⟨t.2.2.1.toArray⟩] V fun e w'=>e=.returned (.bool (ms.contains t.2.2.1))/\w'=V):=fun V hV=>by
  rw[<-zf2 ms,hn];refine Tryz.slices_Contains_string g 0 n n (ms.map fun m=>(⟨m.toArray⟩:ByteArray)) ⟨t.2.2.1.toArray⟩ V (by simp[hn]) (by omega) fun j hj=>?_
  simp only[List.length_map]at hj;rw[Nat.zero_add,hV.cell (p:=⟨g,j,none⟩) hg,hm j hj];simp[List.getD_eq_getElem?_getD,hj]
 have HI:Hid (isM t ms=(zcr t&&ms.contains t.2.2.1)):=rfl;obtain⟨x,hx⟩:∃x,x=zcr t:=⟨_,rfl⟩
 obtain⟨y,hy⟩:∃y,y=ms.contains t.2.2.1:=⟨_,rfl⟩
 rw[<-hx]at MK HI;rw[<-hy]at CT HI;clear hx hy hm hn
 cases x
 all_goals
  go_enter Tryz.func117,Tryz.ntmps117;go_wp2_with (first|(go_at_call 172;refine(J0 MK _).mono ?_;clear MK;rintro e w1 ⟨rfl,hb1⟩;obtain⟨hc1,hm1⟩:=JS hb1;have HB1:Hid (Below w.heap.size w w1):=(zb2 _).trans (hb1.mono (by simp));clear hb1)|(go_at_call 173;refine(J0 CT _ (J0 HB1)).mono ?_;clear CT;rintro e w2 ⟨rfl,rfl⟩));go_ret;exact⟨by rw[J0 HI];simp,J0 HB1⟩
end Go.Proofs.YtdamlfkieecnjaaGreatDoor
namespace Go.Proofs.YtdamlfkieecnjaaGreatDoor
open Go Go.RowKit Lx
theorem tkBox {W:World} {k:Nat} (h:W.heap[k]?=some tkO):(W.cell? ⟨k,0,none⟩=some (.int .i64 0)/\W.cell? ⟨k,1,none⟩=some (.int .i64 0)/\W.cell? ⟨k,2,none⟩=some (.string ⟨#[]⟩)/\W.cell? ⟨k,3,none⟩=some (.int .i64 0))/\∀i,W.frozen? ⟨k,i,none⟩=false:=
 ⟨⟨(Lib.cell_of_heap h 0).trans rfl,(Lib.cell_of_heap h 1).trans rfl,(Lib.cell_of_heap h 2).trans rfl,(Lib.cell_of_heap h 3).trans rfl⟩,fun i=>Lib.frozen_of_heap h i⟩
theorem mark_one (t:Tok) (m:Bs) (V:World):Calls Tryz.prog 117 #[zcx t,.slice (some ⟨V.heap.size,0,none⟩) 1 1] (V.alloc (.cells #[.string ⟨m.toArray⟩] 9)) fun e w'=>e=.returned (.bool (isM t [m]))/\Below V.heap.size V w':=
 (isMark_any t V.heap.size 1 [m] _ rfl (by decide) (by simp) fun j hj=>by
  simp at hj;subst hj;rw[Lib.cell_of_heap (J6 V _)];rfl).mono fun _ _ ⟨h1,h2⟩=>⟨h1,(zb2 _).trans (h2.mono (by simp))⟩
theorem zbe (b:Nat) (T:TypeId) (en:Int) (s:RS) (m:Bs):Rdr b T en 151 #[rp b,.string ⟨m.toArray⟩] s (zb4 s m) (.bool (JB s m)):=fun w h=>by
 have hl:=h.lt;have PK:=J4 (zd1 b T en s w h);have IM:Hid (∀V,Calls Tryz.prog 117 #[zcx (J5 s),.slice (some ⟨V.heap.size,0,none⟩) 1 1] (V.alloc (.cells #[.string ⟨m.toArray⟩] 9)) fun e w'=>e=.returned (.bool (JB s m))/\Below V.heap.size V w'):=fun V=>mark_one _ _ V
 have TK:Hid (∀V,Below w.heap.size w V->Calls Tryz.prog 88 #[rp b] V fun e w'=>e=.returned (zcx (J5 s))/\RdAt b T en (J7 s) w'/\Kx b V w'):=fun V hV=>JP b T en s V (h.below hV)
 have HR:Hid (∀V,Below w.heap.size w V->RdAt b T en s V):=fun V hV=>h.below hV
 have HA:Hid (zb4 s m=if JB s m=true then J7 s else s):=rfl;obtain⟨x,hx⟩:∃x,x=JB s m:=⟨_,rfl⟩
 rw[<-hx]at IM HA ⊢;clear hx h
 cases x
 ·go_enter Tryz.func151,Tryz.ntmps151;go_wp2_with (first|(go_at_call 116;refine(J0 PK).mono ?_;clear PK;rintro e w1 ⟨rfl,hb1⟩;have HB1:=J4 hb1;clear hb1)|(go_at_call 117;refine(J0 IM _).mono ?_;clear IM;rintro e w2 ⟨rfl,hb2⟩;have HB2:=J4 ((J0 HB1).trans (hb2.mono (J0 HB1).size));clear hb2));go_ret;exact⟨rfl,by rw[J0 HA];exact J0 HR _ (J0 HB2),.of_below (J0 HB2) (Nat.le_of_lt hl)⟩
 ·go_enter Tryz.func151,Tryz.ntmps151;go_wp2_with (first|(go_at_call 116;refine(J0 PK).mono ?_;clear PK;rintro e w1 ⟨rfl,hb1⟩;have HB1:=J4 hb1;clear hb1)|(go_at_call 117;refine(J0 IM _).mono ?_;clear IM;rintro e w2 ⟨rfl,hb2⟩;have HB2:=J4 ((J0 HB1).trans (hb2.mono (J0 HB1).size));clear hb2)|(go_at_call 88;refine(J0 TK _ (J0 HB2)).mono ?_;clear TK;rintro e w3 ⟨rfl,r1,r2⟩));go_ret;exact⟨rfl,by rw[J0 HA];exact r1,Kl.on (.of_below (J0 HB2) (Nat.le_of_lt hl)) r2⟩
theorem ze0 (b:Nat) (T:TypeId) (en:Int) (s:RS) (m:Bs):Rdr b T en 153 #[rp b,.string ⟨m.toArray⟩] s (Je en s m) (.tuple #[]):=fun w h=>by
 have AC:=J4 (zbe b T en s m w h);have WR:=J4 (zbg b T en s);have HA:Hid (zb4 s m=if JB s m=true then J7 s else s):=rfl;have HN:Hid (Je en s m=if JB s m=true then J7 s else Jb en s):=rfl;obtain⟨x,hx⟩:∃x,x=JB s m:=⟨_,rfl⟩
 rw[<-hx]at AC HA HN;clear hx h
 cases x
 ·go_enter Tryz.func153,Tryz.ntmps153;go_wp2_with (first|(go_at_call 151;refine(J0 AC).mono ?_;clear AC;rintro e w1 ⟨rfl,r1,r2⟩;rw[J0 HA]at r1;have R1:=J4 r1;have R2:=J4 r2;clear r1 r2)|(go_at_call 85;refine(J0 WR _ (J0 R1)).mono ?_;clear WR;rintro e w3 ⟨rfl,r1,r2⟩));exact bodyPost_end (v:=.tuple #[]) (by simp[results,Tryz.results153,go_sem]) rfl ⟨rfl,by rw[J0 HN];exact r1,Kl.on (J0 R2) r2⟩
 ·go_enter Tryz.func153,Tryz.ntmps153;go_wp2_with (go_at_call 151;refine(J0 AC).mono ?_;clear AC;rintro e w1 ⟨rfl,r1,r2⟩;rw[J0 HA]at r1;have R1:=J4 r1;have R2:=J4 r2;clear r1 r2);exact bodyPost_end (v:=.tuple #[]) (by simp[results,Tryz.results153,go_sem]) rfl ⟨rfl,by rw[J0 HN];exact J0 R1,J0 R2⟩
end Go.Proofs.YtdamlfkieecnjaaGreatDoor
namespace Go.Proofs.YtdamlfkieecnjaaGreatDoor
open Go Go.RowKit Lx
theorem field_kind (a b c d:Value) (w:World):Sem.run Tryz.prog (Instr.field 174 (.agg #[a,b,c,d]) 1) w=.ok b w:=by
 simp[Instr.field,go_sem,asAgg]
theorem RdAt.put4 {b k:Nat} {T:TypeId} {en:Int} {s:RS} {W:World} (h:RdAt b T en s W) (hk:W.heap[k]?=some tkO) (hb:b<k) (a c d e:Value) :
  RdAt b T en s ((((W.setCell ⟨k,0,none⟩ a).setCell ⟨k,1,none⟩ c).setCell ⟨k,2,none⟩ d).setCell ⟨k,3,none⟩ e):=
 have k1:=Ja (i:=0) hk a;have k2:=Ja (i:=1) k1 c;have k3:=Ja (i:=2) k2 d
 (((h.put hk (by decide) hb 0 a).put k1 (by decide) hb 1 c).put k2 (by decide) hb 2 d).put k3 (by decide) hb 3 e
theorem Kl.put4 {b lo k:Nat} {U W:World} (h:Kl b lo U W) (hb:b<=lo) (hk:lo<=k) (a c d e:Value):Kl b lo U ((((W.setCell ⟨k,0,none⟩ a).setCell ⟨k,1,none⟩ c).setCell ⟨k,2,none⟩ d).setCell ⟨k,3,none⟩ e):=
 (((h.setHigh hb hk a).setHigh hb hk c).setHigh hb hk d).setHigh hb hk e
theorem needKind_any (b:Nat) (T:TypeId) (en:Int) (s:RS) (k:Int):Rdr b T en 209 #[rp b,.int .i64 k] s (JX en s k) (zcx (JF s k)):=fun w h=>by
 have hl:=h.lt;have PK:=J4 (zd1 b T en s _ (h.alloc tkO));dsimp only[zcx]at PK;have hfk:=field_kind;have HR:Hid (∀V,Below (w.alloc tkO).heap.size (w.alloc tkO) V->RdAt b T en s V):=fun V hV=>(h.alloc tkO).below hV
 have hne:w.heap.size≠b:=by omega
 obtain⟨x,hx⟩:∃x,x=(J5 s).2.1:=⟨_,rfl⟩
 by_cases hk:x=k
 ·have HS:Hid (JX en s k=J7 s):=by show _=_;rw[JX,if_pos (hx ▸ hk)]
  have HT:Hid (JF s k=J5 s):=by show _=_;rw[JF,if_pos (hx ▸ hk)]
  have TK:=J4 (JP b T en s);rw[<-hx]at PK;obtain rfl:=hk;clear hx h;go_enter Tryz.func209,Tryz.ntmps209;go_wp2_with (first|(go_at_call 116;refine(J0 PK).mono ?_;clear PK;rintro e w1 ⟨rfl,hb1⟩;have HB1:=J4 hb1;clear hb1)|(go_at_call 88;refine(J0 TK _ (J0 HR _ (J0 HB1))).mono ?_;clear TK;rintro e w3 ⟨rfl,r1,r2⟩;have hk3:w3.heap[w.heap.size]?=some tkO:=(r2.2 _ (by have:=(J0 HB1).size;simp at this;omega) hne).trans (((J0 HB1).block _ (by simp)).trans (J6 w tkO));have m:=tkBox hk3;obtain⟨⟨y0,y1,y2,y3⟩,yf⟩:=m;have R1:=J4 r1;have R2:=J4 r2;have HK3:=J4 hk3;clear r1 r2 hk3));exact bodyPost_ret (v:=zcx (J5 s)) (by simp[results,Tryz.results209,go_sem,y0,y1,y2,y3]) rfl ⟨by rw[J0 HT],by rw[J0 HS];exact(J0 R1).put4 (J0 HK3) hl _ _ _ _,((Kl.of_below ((zb2 tkO).trans ((J0 HB1).mono (by simp))) (Nat.le_of_lt hl)).trans ((J0 R2).mono (by have:=(J0 HB1).size;simp at this;omega))).put4 (Nat.le_of_lt hl) (Nat.le_refl _) _ _ _ _⟩
 ·have HS:Hid (JX en s k=J7 (Jb en s)):=by show _=_;rw[JX,if_neg (hx ▸ hk)];simp[J7,za6,Prod.ext_iff]
  have HT:Hid (JF s k=J5 (Jb en s)):=by show _=_;rw[JF,if_neg (hx ▸ hk)];simp[J5,za6]
  have WR:=J4 (zbg b T en s);have TK:=J4 (JP b T en (Jb en s));have ek:(x==k)=false:=beq_eq_false_iff_ne.2 hk;have ek':(x != k)=true:=by rw[bne,ek];rfl
  rw[<-hx]at PK;clear hx h;go_enter Tryz.func209,Tryz.ntmps209;go_wp2_with (first|(go_at_call 116;refine(J0 PK).mono ?_;clear PK;rintro e w1 ⟨rfl,hb1⟩;have HB1:=J4 hb1;clear hb1)|(go_at_call 85;refine(J0 WR _ (J0 HR _ (J0 HB1))).mono ?_;clear WR;rintro e w2 ⟨rfl,q1,q2⟩;have Q1:=J4 q1;have Q2:=J4 q2;clear q1 q2)|(go_at_call 88;refine(J0 TK _ (J0 Q1)).mono ?_;clear TK;rintro e w3 ⟨rfl,r1,r2⟩;have hk3:w3.heap[w.heap.size]?=some tkO:=(r2.2 _ (by have:=(J0 HB1).size;have:=(J0 Q2).size;simp at *;omega) hne).trans (((J0 Q2).2 _ (by have:=(J0 HB1).size;simp at this;omega) hne).trans (((J0 HB1).block _ (by simp)).trans (J6 w tkO)));have m:=tkBox hk3;obtain⟨⟨y0,y1,y2,y3⟩,yf⟩:=m;have R1:=J4 r1;have R2:=J4 r2;have HK3:=J4 hk3;clear r1 r2 hk3));exact bodyPost_ret (v:=zcx (J5 (Jb en s))) (by simp[results,Tryz.results209,go_sem,y0,y1,y2,y3]) rfl ⟨by rw[J0 HT],by rw[J0 HS];exact(J0 R1).put4 (J0 HK3) hl _ _ _ _,((Kl.of_below ((zb2 tkO).trans ((J0 HB1).mono (by simp))) (Nat.le_of_lt hl)).trans ((Kl.on (J0 Q2) (J0 R2)).mono (by have:=(J0 HB1).size;simp at this;omega))).put4 (Nat.le_of_lt hl) (Nat.le_refl _) _ _ _ _⟩
end Go.Proofs.YtdamlfkieecnjaaGreatDoor
namespace Go.Proofs.YtdamlfkieecnjaaGreatDoor
open Go Go.RowKit Lx
theorem known_any (v:Value) (ns:List Bs) (s:Bs) (w:World) (h:SRow w v ns) (hl:ns.length<=1000000):Calls Tryz.prog 173 #[v,.string ⟨s.toArray⟩] w fun e w'=>e=.returned (.bool (ns.contains s))/\w=w':=by
 obtain⟨p,c,rfl,hp⟩:=h
 cases ns with
 | nil=>exact(Tryz.slices_Contains_string_empty p c _ w).mono fun _ _ ⟨h1,h2⟩=>⟨h1,h2.symm⟩
 | cons n r=>
  obtain⟨g,o,rfl,-⟩:=hp 0 n rfl;rw[<-zf2];refine(Tryz.slices_Contains_string g o _ c ((n::r).map fun m=>(⟨m.toArray⟩:ByteArray)) ⟨s.toArray⟩ w (by simp) (by omega) fun j hj=>?_).mono fun _ _ ⟨h1,h2⟩=>⟨h1,h2.symm⟩
  have hj':j<(n::r).length:=by simpa using hj
  obtain⟨g',o',e,a⟩:=hp j (n::r)[j] (List.getElem?_eq_getElem hj');obtain⟨rfl,rfl⟩:g=g'/\o=o':=by simpa using e
  rw[a,List.getD_eq_getElem?_getD,List.getElem?_map,List.getElem?_eq_getElem hj']
  rfl
theorem newName_any (b:Nat) (T:TypeId) (en:Int) (s:RS) (v:Value) (ns:List Bs) (hl:ns.length<=1000000) (w:World) (h:RdAt b T en s w) (hs:∀V,Kx b w V->SRow V v ns) :
  Calls Tryz.prog 152 #[rp b,v] w fun e w'=>e=.returned (.string ⟨(JF s 1).2.2.1.toArray⟩)/\RdAt b T en (newS en s ns) w'/\Kx b w w':=by
 have hlt:=h.lt;have NK:=J4 (needKind_any b T en s 1 w h);obtain⟨t,ht⟩:∃t,t=JF s 1:=⟨_,rfl⟩
 obtain⟨s1,hs1⟩:∃s1,s1=JX en s 1:=⟨_,rfl⟩
 have HN:Hid (newS en s ns=if ns.contains t.2.2.1=true then zbv s1 t.1 20 else s1):=by rw[ht,hs1];rfl
 rw[<-ht,<-hs1]at NK;rw[<-ht];obtain⟨a,k,S,n⟩:=t;dsimp only[zcx]at NK HN ⊢;have KN:Hid (∀V,Kx b w V->Calls Tryz.prog 173 #[v,.string ⟨S.toArray⟩] V fun e w'=>e=.returned (.bool (ns.contains S))/\V=w'):=fun V hV=>known_any v ns S V (hs V hV) hl
 have RF:=J4 (zbl b T en s1 a 20);obtain⟨x,hx⟩:∃x,x=ns.contains S:=⟨_,rfl⟩
 rw[<-hx]at KN HN;clear hx ht hs1 h hs
 cases x
 ·go_enter Tryz.func152,Tryz.ntmps152;go_wp2_with (first|(go_at_call 209;refine(J0 NK).mono ?_;clear NK;rintro e w1 ⟨rfl,r1,r2⟩;have R1:=J4 r1;have R2:=J4 r2;clear r1 r2)|(go_at_call 173;refine(J0 KN _ ((J0 R2).alloc (Nat.le_of_lt hlt) (J0 R2).size _)).mono ?_;clear KN;rintro e w2 ⟨rfl,rfl⟩));go_ret;exact⟨rfl,by rw[J0 HN];exact(J0 R1).alloc _,(J0 R2).alloc (Nat.le_of_lt hlt) (J0 R2).size _⟩
 ·go_enter Tryz.func152,Tryz.ntmps152;go_wp2_with (first|(go_at_call 209;refine(J0 NK).mono ?_;clear NK;rintro e w1 ⟨rfl,r1,r2⟩;have R1:=J4 r1;have R2:=J4 r2;have hz1:=r1.lt;have hz2:w1.heap.size≠b:=(by omega);clear r1 r2)|(go_at_call 173;refine(J0 KN _ ((J0 R2).alloc (Nat.le_of_lt hlt) (J0 R2).size _)).mono ?_;clear KN;rintro e w2 ⟨rfl,rfl⟩)|(go_at_call 48;refine(zei _ _).mono ?_;rintro e w3 ⟨rfl,hb3⟩;have y2:=(hb3.block w1.heap.size (by simp)).trans (J6 w1 _);have yc:=Lib.cell_of_heap y2 2;have HB3:=J4 hb3;have hz3:=hb3.size;simp at hz3;clear hb3 y2)|(go_at_call 149;refine(J0 RF _ (((J0 R1).alloc _).below (J0 HB3))).mono ?_;clear RF;rintro e w4 ⟨rfl,r1,r2⟩;have y4:=(r2.cells.1 w1.heap.size 2 hz3 hz2).trans yc;simp at y4;have Q1:=J4 r1;have Q2:=J4 r2;clear r1 r2));go_ret;exact⟨rfl,by rw[J0 HN];exact J0 Q1,((J0 R2).alloc (Nat.le_of_lt hlt) (J0 R2).size _).trans ((Kl.on (.of_below (J0 HB3) (by simp;omega)) (J0 Q2)).mono (by have:=(J0 R2).size;simp;omega))⟩
end Go.Proofs.YtdamlfkieecnjaaGreatDoor
namespace Go.Proofs.YtdamlfkieecnjaaGreatDoor
open Go Go.RowKit Lx
theorem msAt_new (V:World) (ms:List Bs) (c:Array Value) (hc:c=(ms.map fun m=>Value.string ⟨m.toArray⟩).toArray) (T:TypeId):MsAt (V.alloc (.cells c T)) V.heap.size ms:=fun j hj=>by
 rw[Lib.cell_of_heap (J6 V _),hc,List.getElem?_toArray,List.getElem?_map,List.getD_eq_getElem?_getD,List.getElem?_eq_getElem hj]
 rfl
theorem closed_any (b:Nat) (T:TypeId) (en:Int) (s:RS) (m:Bs):Rdr b T en 150 #[rp b,.string ⟨m.toArray⟩] s (Ju en s m) (.bool (zab en s m)):=fun w h=>by
 have LF:=J4 (zcd b T en s w h);obtain⟨s1,hs1⟩:∃s1,s1=zb5 en s:=⟨_,rfl⟩
 have HB:Hid (zab en s m=(JB s1 m||!zap (zb4 s1 m))):=by rw[hs1];show _=_;simp[zab,zap]
 have HS:Hid (Ju en s m=zb4 s1 m):=by rw[hs1];rfl
 have AC:=J4 (zbe b T en s1 m);have LG:=J4 (zcd b T en (zb4 s1 m));have WR:=J4 (zbg b T en s w h);have HR:=J4 h;obtain⟨x,hx⟩:∃x,x=JB s1 m:=⟨_,rfl⟩
 obtain⟨y,hy⟩:∃y,y=zap (zb4 s1 m):=⟨_,rfl⟩
 rw[<-hx]at HB AC;rw[<-hy]at HB LG;clear hx hy h;by_cases h0:s.1=[]
 ·have hL:zap s=false:=by simp[zap,h0]
  have HO:Hid (Jb en s=s1):=by rw[hs1];show _=_;rw[zb5,if_pos h0]
  rw[hL]at LF;clear hL h0 hs1
  cases x
  all_goals
   go_enter Tryz.func150,Tryz.ntmps150;go_wp2_with (first|(go_at_call 85;refine(J0 WR).mono ?_;clear WR;rintro e w2 ⟨rfl,q1,q2⟩;rw[J0 HO]at q1;have Q1:=J4 q1;have Q2:=J4 q2;clear q1 q2)|(go_at_call 151;refine(J0 AC _ (J0 Q1)).mono ?_;clear AC;rintro e w3 ⟨rfl,r1,r2⟩;have R1:=J4 r1;have R2:=J4 r2;clear r1 r2)|(go_at_call 84;first|(refine(J0 LF).mono ?_;clear LF;rintro e wl ⟨rfl,rfl⟩)|(refine(J0 LG _ (J0 R1)).mono ?_;clear LG;rintro e wl ⟨rfl,rfl⟩)));go_ret;exact⟨by rw[J0 HB];simp,by rw[J0 HS];exact J0 R1,Kl.on (J0 Q2) (J0 R2)⟩
 ·have hL:zap s=true:=by simp[zap,h0]
  have HO:Hid (s=s1):=by rw[hs1];show _=_;rw[zb5,if_neg h0]
  rw[hL]at LF;clear hL h0 hs1 WR
  cases x
  all_goals
   go_enter Tryz.func150,Tryz.ntmps150;go_wp2_with (first|(go_at_call 151;refine(J0 AC _ (J0 HO ▸ J0 HR)).mono ?_;clear AC;rintro e w3 ⟨rfl,r1,r2⟩;have R1:=J4 r1;have R2:=J4 r2;clear r1 r2)|(go_at_call 84;first|(refine(J0 LF).mono ?_;clear LF;rintro e wl ⟨rfl,rfl⟩)|(refine(J0 LG _ (J0 R1)).mono ?_;clear LG;rintro e wl ⟨rfl,rfl⟩)));go_ret;exact⟨by rw[J0 HB];simp,by rw[J0 HS];exact J0 R1,J0 R2⟩
def Begins (F:FuncId) (bg:Tok->Bool):Prop:=(∀args w,Sem.run Tryz.prog (callFunc F args) w=.ok (.enter F args) w)/\∀t w,Calls Tryz.prog F #[zcx t] w fun e w'=>e=.returned (.bool (bg t))/\Below w.heap.size w w'
theorem zek (b:Nat) (T:TypeId) (en:Int) (s:RS) (F:FuncId) (bg:Tok->Bool) (hbg:Begins F bg) (depth:Int):Rdr b T en 86 #[rp b,.func (.func F) #[] #[],.int .i64 depth] s (zbq bg en s depth) (.bool (zd4 bg s depth)):=fun w h=>by
 obtain⟨hF,hB⟩:=hbg;have hlt:=h.lt;have PK:=J4 (zd1 b T en s w h);have HR:Hid (∀V,Below w.heap.size w V->RdAt b T en s V):=fun V hV=>h.below hV
 have BG:Hid (∀V,Calls Tryz.prog F #[zcx (J5 s)] V fun e w'=>e=.returned (.bool (bg (J5 s)))/\Below V.heap.size V w'):=fun V=>hB _ V
 have HE:Hid (zd4 bg s depth=(bg (J5 s)&&decide (depth<=64))):=rfl;have HS:Hid (zbq bg en s depth=if bg (J5 s)=false then Jb en s else if 64<depth then zbv s (J5 s).1 15 else s):=rfl;have WR:=J4 (zbg b T en s);have RF:=J4 (zbl b T en s (J5 s).1 15);obtain⟨x,hx⟩:∃x,x=bg (J5 s):=⟨_,rfl⟩
 rw[<-hx]at BG HE HS;generalize J5 s=t at *;clear hx h hB;obtain⟨a,k,S,n⟩:=t
 cases x
 ·go_enter Tryz.func86,Tryz.ntmps86;go_wp2_with (go_at_call 116;refine(J0 PK).mono ?_;clear PK;rintro e w1 ⟨rfl,hb1⟩;have HB1:=J4 hb1;clear hb1);refine(J0 BG _).mono ?_;clear BG;rintro e w2 ⟨rfl,hb2⟩;have HB2:Hid (Below w.heap.size w w2):=(J0 HB1).trans (((zb2 _).trans (hb2.mono (by simp))).mono (J0 HB1).size);clear hb2;go_wp2_with (go_at_call 85;refine(J0 WR _ (J0 HR _ (J0 HB2))).mono ?_;clear WR;rintro e w3 ⟨rfl,q1,q2⟩);go_ret;exact⟨by rw[J0 HE];rfl,by rw[J0 HS];exact q1,Kl.on (.of_below (J0 HB2) (Nat.le_of_lt hlt)) q2⟩
 ·by_cases hd:64<depth
  ·go_enter Tryz.func86,Tryz.ntmps86;go_wp2_with (go_at_call 116;refine(J0 PK).mono ?_;clear PK;rintro e w1 ⟨rfl,hb1⟩;have HB1:=J4 hb1;clear hb1);refine(J0 BG _).mono ?_;clear BG;rintro e w2 ⟨rfl,hb2⟩;have yc:=(hb2.cell (p:=⟨w1.heap.size,0,none⟩) (by simp)).trans (Lib.cell_of_heap (J6 w1 _) 0);have HB2:Hid (Below w.heap.size w w2):=(J0 HB1).trans (((zb2 _).trans (hb2.mono (by simp))).mono (J0 HB1).size);simp at yc;clear hb2;go_wp2_with (first|(go_at_call 48;refine(zei _ _).mono ?_;rintro e w3 ⟨rfl,hb3⟩;have HB3:Hid (Below w.heap.size w w3):=(J0 HB2).trans (hb3.mono (J0 HB2).size);clear hb3)|(go_at_call 149;refine(J0 RF _ (J0 HR _ (J0 HB3))).mono ?_;clear RF;rintro e w3 ⟨rfl,q1,q2⟩));go_ret;exact⟨by rw[J0 HE];simp;omega,by rw[J0 HS,if_neg (by simp),if_pos hd];exact q1,Kl.on (.of_below (J0 HB3) (Nat.le_of_lt hlt)) q2⟩
  ·go_enter Tryz.func86,Tryz.ntmps86;go_wp2_with (go_at_call 116;refine(J0 PK).mono ?_;clear PK;rintro e w1 ⟨rfl,hb1⟩;have HB1:=J4 hb1;clear hb1);refine(J0 BG _).mono ?_;clear BG;rintro e w2 ⟨rfl,hb2⟩;have HB2:Hid (Below w.heap.size w w2):=(J0 HB1).trans (((zb2 _).trans (hb2.mono (by simp))).mono (J0 HB1).size);clear hb2;go_wp2;go_ret;exact⟨by rw[J0 HE];simp;omega,by rw[J0 HS,if_neg (by simp),if_neg (by omega)];exact J0 HR _ (J0 HB2),.of_below (J0 HB2) (Nat.le_of_lt hlt)⟩
theorem marks_any (t:Tok) (ms:List Bs) (n:Nat) (c:Array Value) (hc:c=(ms.map fun m=>Value.string ⟨m.toArray⟩).toArray) (hn:ms.length=n) (hl:n<=1000) (V:World) (g:Nat) (hg:V.heap.size=g):Calls Tryz.prog 117 #[zcx t,.slice (some ⟨g,0,none⟩) n n] (V.alloc (.cells c 9)) fun e w'=>e=.returned (.bool (isM t ms))/\Below V.heap.size V w':=by
 subst hg;exact(isMark_any t V.heap.size n ms _ hn hl (by simp) (msAt_new V ms c hc _)).mono fun _ _ ⟨h1,h2⟩=>⟨h1,(zb2 _).trans (h2.mono (by simp))⟩
theorem begT_any:Begins 87 za2:=⟨fun _ _=>by kernel_rfl,fun t w=>by
 have HB:Hid (za2 t=(t.2.1==2||isM t zd5)):=rfl;have IQ:=J4 (marks_any t zd5 7 #[.string ⟨#[105,110,116]⟩,.string ⟨#[98,111,111,108]⟩,.string ⟨#[116,101,120,116]⟩,.string ⟨#[42]⟩,.string ⟨#[123]⟩,.string ⟨#[102,110]⟩,.string ⟨#[105,110,116,101,114,102,97,99,101]⟩] rfl rfl (by decide));obtain⟨x,hx⟩:∃x,x=isM t zd5:=⟨_,rfl⟩
 rw[<-hx]at IQ HB;clear hx;obtain⟨a,k,S,n⟩:=t;by_cases h2:k=2
 ·subst h2;go_enter Tryz.func87,Tryz.ntmps87;go_wp2;go_ret;exact⟨by rw[J0 HB];rfl,zb2 _⟩
 ·have e2:(k==2)=false:=beq_eq_false_iff_ne.2 h2;go_enter Tryz.func87,Tryz.ntmps87;go_wp2_with (go_at_call 117;refine(J0 IQ _ _ (by simp)).mono ?_;clear IQ;rintro e w1 ⟨rfl,hb1⟩);go_ret;exact⟨by rw[J0 HB,e2];simp,(zb2 _).trans (hb1.mono (by simp))⟩⟩
theorem begS_any:Begins 154 zdl:=⟨fun _ _=>by kernel_rfl,fun t w=>by
 have HB:Hid (zdl t=isM t [[40]]):=rfl;have IQ:=J4 (marks_any t [[40]] 1 #[.string ⟨#[40]⟩] rfl rfl (by decide));obtain⟨x,hx⟩:∃x,x=isM t [[40]]:=⟨_,rfl⟩
 rw[<-hx]at IQ HB;clear hx;obtain⟨a,k,S,n⟩:=t;go_enter Tryz.func154,Tryz.ntmps154;go_wp2_with (go_at_call 117;refine(J0 IQ _ _ (by simp)).mono ?_;clear IQ;rintro e w1 ⟨rfl,hb1⟩);go_ret;exact⟨by rw[J0 HB];rfl,(zb2 _).trans (hb1.mono (by simp))⟩⟩
end Go.Proofs.YtdamlfkieecnjaaGreatDoor
