import Derived.Test.YtdamlfkieecnjaaGreatDoorQQFresh
import Derived.Test.YtdamlfkieecnjaaGreatDoorQRefB
import Derived.Test.YtdamlfkieecnjaaGreatDoorQPReadC
set_option maxHeartbeats 2000000
set_option maxRecDepth 100000
namespace Go.Proofs.YtdamlfkieecnjaaGreatDoor
open Go Go.RowKit Lx
theorem next_ne {l:Bs} {n o y:Nat} (h:next l n=.inl (o,y)):y≠0:=by
 unfold next at h
 split at h
 ·cases h;decide
 ·split at h
  ·cases h;decide
  ·unfold cut at h
   split at h
   ·unfold Jh at h
    split at h
    ·cases h;decide
    ·split at h
     ·cases h;decide
     ·cases h
   ·split at h
    ·unfold Jn at h
     split at h
     ·cases h;decide
     ·cases h
    ·split at h
     ·unfold JC at h
      split at h <;> cases h
     ·unfold Jv at h
      split at h
      ·cases h;decide
      ·cases h
theorem lexF_ne:∀(f:Nat) (l:Bs) (a n p y:Nat),(zdq f l a n).2=some (p,y)->y≠0
 | 0,l,a,n,p,y,h=>by simp[zdq]at h
 | f+1,l,a,n,p,y,h=>by
  rw[zdq]at h
  split at h
  ·cases h
  ·rcases hx:next (l.drop (skip l)) n with⟨o,z⟩|⟨k,s,v,m⟩
   ·rw[hx]at h;simp only[Option.some.injEq,Prod.mk.injEq]at h;rw[<-h.2];exact next_ne hx
   ·rw[hx]at h;exact lexF_ne f _ _ _ p y h
theorem lex_ne {l:Bs} {p y:Nat} (h:(lex l).2=some (p,y)):y≠0:=by
 rw[lex]at h
 split at h
 ·simp only[Option.some.injEq,Prod.mk.injEq]at h;rw[<-h.2];decide
 ·exact lexF_ne _ _ _ _ _ _ h
def qs0 (src:Bs):RS:=match (lex src).2 with
 | some (a,y)=>([],some ((a:Int),(y:Int)))
 | none=>((lex src).1,none)
theorem begin_q (src:ByteArray) (hs:src.size<=140737488355328) (w:World):Calls Tryz.prog 44 #[.string src] w fun e w'=>∃b,e=.returned (rp b)/\w.heap.size<=b/\RqAt b (src.size:Int) (lex src.data.toList).1 (qs0 src.data.toList) w'/\Below w.heap.size w w':=by
 have TK:=J4 (fun W=>rTokens_any src hs W);go_enter Tryz.func44,Tryz.ntmps44;go_upto_region 2 with(go_at_call 92;refine(J0 TK _).mono ?_;clear TK;rintro e w2 ⟨r1,tv,rfl,r2⟩;have R1:=J4 r1;have R2:=J4 r2;clear r1 r2)
 have hm:=Lx.lex_most src.data.toList;have TA:=TkAt.of_owns (J0 R2) (by omega) (Nat.le_refl _);obtain⟨-,⟨tp,tc,e,-,-⟩,-⟩:=id TA;subst e;have HT:=J4 TA;clear TA R2 hm;go_wp2;obtain⟨W3,hW3⟩:∃W3:World,W3=w2.alloc (.cells #[.slice tp (lex src.data.toList).1.length tc,.int .i64 (src.size:Int),.int .i64 0,.int .i64 (rwhy (lex src.data.toList).2:Int),.int .i64 (rplace (lex src.data.toList).2:Int)] qT):=⟨_,rfl⟩
 rw[<-hW3];have hq:RqAt w2.heap.size (src.size:Int) (lex src.data.toList).1 (qs0 src.data.toList) W3:=by
  refine⟨0,(rwhy (lex src.data.toList).2:Int),(rplace (lex src.data.toList).2:Int),⟨tp,tc,by rw[hW3];exact J6 _ _,(J0 HT).keep (by rw[hW3];exact zb2 _),Nat.zero_le _⟩,?_⟩;unfold qs0
  cases ho:(lex src.data.toList).2 with
  | none=>simp[qs,rwhy]
  | some r=>
   obtain⟨a,y⟩:=r;have hy:y≠0:=lex_ne ho;simp[qs,rwhy,rplace,hy]
 exact bodyPost_ret (v:=rp w2.heap.size) (by simp[results,Tryz.results44,go_sem]) rfl ⟨_,rfl,(J0 R1).size,hq,by rw[hW3];exact(J0 R1).alloc (J0 R1).size _⟩
end Go.Proofs.YtdamlfkieecnjaaGreatDoor
namespace Go.Proofs.YtdamlfkieecnjaaGreatDoor
open Go Go.RowKit Lx
theorem q_put {en:Int} {b k0:Nat} {ts:List Tok} {s:RS} {w w3:World} {a0 a1 a2 a3 a4 b0 b1 b2 b3 b4:Value} (h:w3.heap[k0]?=some (.cells #[a0,a1,a2,a3,a4] 27)) (hR:RqAt b en ts s w3) (hK:Kl b w.heap.size w w3) (hb:b<w.heap.size) (hk0:w.heap.size<=k0) (Wf:World) (e:Wf=((((w3.setCell ⟨k0,0,none⟩ b0).setCell ⟨k0,1,none⟩ b1).setCell ⟨k0,2,none⟩ b2).setCell ⟨k0,3,none⟩ b3).setCell ⟨k0,4,none⟩ b4) :
  Wf.heap[k0]?=some (.cells #[b0,b1,b2,b3,b4] 27)/\RqAt b en ts s Wf/\Kx b w Wf/\∀j,j≠k0->Wf.heap[j]?=w3.heap[j]?:=by
 obtain⟨d1,d2,d3⟩:=zc7 h Wf e;have hbk:b<k0:=by omega
 refine⟨d1,?_,?_,d2⟩
 ·rw[e];exact((((hR.put hbk 0 b0).put hbk 1 b1).put hbk 2 b2).put hbk 3 b3).put hbk 4 b4
 ·rw[e];exact((((hK.setHigh (Nat.le_of_lt hb) hk0 b0).setHigh (Nat.le_of_lt hb) hk0 b1).setHigh (Nat.le_of_lt hb) hk0 b2).setHigh (Nat.le_of_lt hb) hk0 b3).setHigh (Nat.le_of_lt hb) hk0 b4
theorem typed_no (b:Nat) (en:Int) (ts:List Tok) (s:RS) (deep:Int) (hx:za2 (J5 s)=false) (w:World) (h:RqAt b en ts s w) :
  Calls Tryz.prog 45 #[rp b,.int .i64 deep] w fun e w'=>e=.returned tyZ/\RqAt b en ts (Jb en s) w'/\Kx b w w':=by
 have hl:=h.lt;have BG:=J4 (zaj b en ts s (w.alloc tyO) (h.alloc tyO));have FL:=J4 (zdv b en ts s 13 (by decide));rw[hx]at BG;rw[<-zbp];clear hx h;go_enter Tryz.func45,Tryz.ntmps45;go_wp2_with (first|(go_at_call 93;refine(J0 BG).mono ?_;clear BG;rintro e w2 ⟨rfl,r1,r2⟩;have R1:=J4 r1;have R2:=J4 r2;clear r1 r2)|(go_at_call 71;refine(J0 FL _ (J0 R1)).mono ?_;clear FL;rintro e w3 ⟨rfl,q1,q2⟩;have k3:w3.heap[w.heap.size]?=some tyO:=(q2.2 _ (by have:=(J0 R2).size;simp at this;omega) (by omega)).trans (((J0 R2).2 _ (by simp) (by omega)).trans (J6 w tyO));obtain⟨⟨z0,z1,z2,z3,z4⟩,zf⟩:=J8 k3;have K3:=J4 k3;have Q1:=J4 q1;have Q2:=J4 q2;clear q1 q2 k3));obtain⟨Wf,hWf⟩:∃Wf:World,Wf=((((w3.setCell ⟨w.heap.size,0,none⟩ (.int .i64 0)).setCell ⟨w.heap.size,1,none⟩ (.string ⟨#[]⟩)).setCell ⟨w.heap.size,2,none⟩ (.slice none 0 0)).setCell ⟨w.heap.size,3,none⟩ (.slice none 0 0)).setCell ⟨w.heap.size,4,none⟩ (.slice none 0 0):=⟨_,rfl⟩
 rw[<-hWf];have hK:Kl b w.heap.size w w3:=Kl.on (.of_below (zb2 tyO) (Nat.le_of_lt hl)) (Kl.on (J0 R2) (J0 Q2));obtain⟨d1,d2,d3,-⟩:=q_put (J0 K3) (J0 Q1) hK hl (Nat.le_refl _) Wf hWf;obtain⟨⟨y0,y1,y2,y3,y4⟩,-⟩:=J8 d1;exact bodyPost_ret (v:=tyZ) (by simp[results,Tryz.results45,go_sem,y0,y1,y2,y3,y4]) rfl ⟨rfl,d2,d3⟩
theorem typed_deep (b:Nat) (en:Int) (ts:List Tok) (s:RS) (deep:Int) (hx:za2 (J5 s)=true) (hd:64<deep) (w:World) (h:RqAt b en ts s w) :
  Calls Tryz.prog 45 #[rp b,.int .i64 deep] w fun e w'=>e=.returned tyZ/\RqAt b en ts (zbk en 15 s) w'/\Kx b w w':=by
 have hl:=h.lt;have BG:=J4 (zaj b en ts s (w.alloc tyO) (h.alloc tyO));have FL:=J4 (zdv b en ts s 15 (by decide));rw[hx]at BG;clear hx h;go_enter Tryz.func45,Tryz.ntmps45;go_wp2_with (first|(go_at_call 93;refine(J0 BG).mono ?_;clear BG;rintro e w2 ⟨rfl,r1,r2⟩;have R1:=J4 r1;have R2:=J4 r2;clear r1 r2)|(go_at_call 71;refine(J0 FL _ (J0 R1)).mono ?_;clear FL;rintro e w3 ⟨rfl,q1,q2⟩;have k3:w3.heap[w.heap.size]?=some tyO:=(q2.2 _ (by have:=(J0 R2).size;simp at this;omega) (by omega)).trans (((J0 R2).2 _ (by simp) (by omega)).trans (J6 w tyO));obtain⟨⟨z0,z1,z2,z3,z4⟩,zf⟩:=J8 k3;have K3:=J4 k3;have Q1:=J4 q1;have Q2:=J4 q2;clear q1 q2 k3));obtain⟨Wf,hWf⟩:∃Wf:World,Wf=((((w3.setCell ⟨w.heap.size,0,none⟩ (.int .i64 0)).setCell ⟨w.heap.size,1,none⟩ (.string ⟨#[]⟩)).setCell ⟨w.heap.size,2,none⟩ (.slice none 0 0)).setCell ⟨w.heap.size,3,none⟩ (.slice none 0 0)).setCell ⟨w.heap.size,4,none⟩ (.slice none 0 0):=⟨_,rfl⟩
 rw[<-hWf];have hK:Kl b w.heap.size w w3:=Kl.on (.of_below (zb2 tyO) (Nat.le_of_lt hl)) (Kl.on (J0 R2) (J0 Q2));obtain⟨d1,d2,d3,-⟩:=q_put (J0 K3) (J0 Q1) hK hl (Nat.le_refl _) Wf hWf;obtain⟨⟨y0,y1,y2,y3,y4⟩,-⟩:=J8 d1;exact bodyPost_ret (v:=tyZ) (by simp[results,Tryz.results45,go_sem,y0,y1,y2,y3,y4]) rfl ⟨rfl,d2,d3⟩
end Go.Proofs.YtdamlfkieecnjaaGreatDoor
namespace Go.Proofs.YtdamlfkieecnjaaGreatDoor
open Go Go.RowKit Lx
def opt {α:Type} (p:RS->α×RS) (s:RS):Option α×RS:=(if (p s).2.2=none then some (p s).1 else none,(p s).2)
def OQ (d:Nat):World->List Value->Option (Ty (d+1))->Prop:=fun V u o=>match o with
 | some t=>TyV V d (.agg u.toArray) t
 | none=>True
def zcz (b:Nat) (en:Int) (ts:List Tok) (F:FuncId) (args:Array Value) (d:Nat) (p:RS->Ty (d+1)×RS):Prop:=
 ∀(s:RS) (w:World),RqAt b en ts s w->Calls Tryz.prog F args w fun e w'=>∃(K:Int) (S:ByteArray) (pn pe pp:Option Addr) (nn cn ne ce np cp:Nat),e=.returned (Jc K S pn pe pp nn cn ne ce np cp)/\RqAt b en ts (p s).2 w'/\Kx b w w'/\((p s).2.2=none->∀V:World,(∀j,w.heap.size<=j->j<w'.heap.size->V.heap[j]?=w'.heap[j]?)->TyV V d (Jc K S pn pe pp nn cn ne ce np cp) (p s).1)
def mz (s:RS):Nat:=if s.2=none then s.1.length+1 else 0
def goOn (s:RS) (m:Bs):Bool:=s.2.isNone&&!JB s m
def sigL {α:Type} (en:Int) (pt:RS->α×RS):Nat->List α->RS->List α×RS
 | 0,l,s=>(l,s)
 | f+1,l,s=>if goOn s [41]=true then
   let q:=pt (if l.isEmpty=true then s else Je en s [44])
   sigL en pt f (l++[q.1]) q.2 else(l,s)
structure Takes {α:Type} (p:RS->α×RS):Prop where
 less:∀s,(p s).2.1.length<=s.1.length
 takes:∀s,(p s).2.2=none->(p s).2.1.length<s.1.length
 keeps:∀s r,s.2=some r->(p s).2.2=some r
theorem Takes.mz {α:Type} {p:RS->α×RS} (h:Takes p) {en:Int} {s:RS} {l:Bool} (hs:goOn s [41]=true):mz (p (if l=true then s else Je en s [44])).2<mz s:=by
 have h0:s.2=none:=by
  simp only[goOn,Bool.and_eq_true]at hs;simpa using hs.1
 obtain⟨s1,hs1⟩:∃s1,s1=(if l=true then s else Je en s [44]):=⟨_,rfl⟩
 have h2:s1.1.length<=s.1.length:=by
  rw[hs1]
  split
  ·exact Nat.le_refl _
  ·exact JK _ _ _
 rw[<-hs1];show(if (p s1).2.2=none then(p s1).2.1.length+1 else 0)<(if s.2=none then s.1.length+1 else 0);rw[if_pos h0]
 split
 ·rename_i hq;have h1:=h.takes _ hq;omega
 ·omega
end Go.Proofs.YtdamlfkieecnjaaGreatDoor
namespace Go.Proofs.YtdamlfkieecnjaaGreatDoor
open Go Go.RowKit Lx
theorem zay {P:Program} {ops:Array Oper} {rest:List Oper} {o:Oper} {a:Act} {w:World} {Q:Exit->Act->World->Prop} (hg:o.guard=none) (s x:Operand) (t:TypeId) (ho:o.op=.call { callee:=.builtin .append,args:=#[s,x],argTypes:=#[t,t] })
  {v u v':Value} {w':World} (hs:a.eval s=v) (hx:a.eval x=u) (hr:(Builtin.append_ #[t,t] o.type #[v,u]).run P w=.ok v' w') (h:wpList P ops Q rest (a.put o.dst v') w'):wpList P ops Q (o::rest) a w:=by
 refine wpList_plain hg fun K hK=>?_
 unfold Oper.wp;simp[execOp,ho,resolve,invoke,builtin,hs,hx,hr,Result.andThen];exact hK _ _ h
def sigR {α:Type} (en:Int) (pt:RS->α×RS) (s:RS):List α×RS:=
 let q:=sigL en pt (mz (Je en s [40])+1) [] (Je en s [40])
 (q.1++[(pt (Je en q.2 [41])).1],(pt (Je en q.2 [41])).2)
theorem RqAt.on {b:Nat} {en:Int} {ts:List Tok} {s:RS} {W W':World} (h:RqAt b en ts s W) (hx:Below b W W') (hb:W'.heap[b]?=W.heap[b]?):RqAt b en ts s W':=by
 obtain⟨i,y,a,⟨p,c,h1,h2,h3⟩,e⟩:=h;exact⟨i,y,a,⟨p,c,hb.trans h1,h2.keep hx,h3⟩,e⟩
abbrev OwnOf (v:Value):Nat->Prop:=fun k=>v.ownBlock=some k
theorem sig_row {b d lo:Nat} {en:Int} {ts:List Tok} {p:RS->Ty (d+1)×RS} {s1:RS} {wr wc w3:World} {v:Value} {l:List (Option (Ty (d+1)))} {K:Int} {S:ByteArray} {pn pe pp:Option Addr} {nn cn ne ce np cp:Nat} (hRow:Row 27 5 (OQ d) lo (OwnOf v) wr v l) (hlo:lo<=wr.heap.size) (hbl:b<lo) (hwc:wr.heap.size<=wc.heap.size) (hk:Kx b wr w3) (hR:RqAt b en ts (p s1).2 w3)
  (hT:(p s1).2.2=none->∀V:World,(∀j,wc.heap.size<=j->j<w3.heap.size->V.heap[j]?=w3.heap[j]?)->TyV V d (Jc K S pn pe pp nn cn ne ce np cp) (p s1).1) (hl:l.length<=1000000) :
  ∃(g cap:Nat) (W4:World),(Builtin.append_ #[25,25] 25 #[v,.slice (some ⟨w3.heap.size,0,none⟩) 1 1]).run Tryz.prog (w3.alloc (.cells #[.int .i64 K,.string S,.slice pn nn cn,.slice pe ne ce,.slice pp np cp] 27))=.ok (.slice (some ⟨g,0,none⟩) (l.length+1) cap) W4 /\
   Row 27 5 (OQ d) lo (OwnOf (.slice (some ⟨g,0,none⟩) (l.length+1) cap)) W4 (.slice (some ⟨g,0,none⟩) (l.length+1) cap) (l++[(opt p s1).1])/\RqAt b en ts (p s1).2 W4/\Kl b lo wr W4/\(∀k,v.ownBlock=some k∨lo<=k->b<k):=by
 have hown:=hRow.lt;obtain⟨g,cap,W4,e,hrow,hs4,hkeep,hgg,hbel⟩:=Row.append (Ts:=25) (b:=b) (B:=w3.heap.size) (wr:=wr) (W2:=w3) (x:=(opt p s1).1) (u:=[.int .i64 K,.string S,.slice pn nn cn,.slice pe ne ce,.slice pp np cp]) Tryz.underlying25 inf_ty rfl (by decide) (by decide) hRow hlo (fun k hk=>(hown k hk).2) (fun k hk=>hk) hk hbl (zb2 _) (J6 w3 _)
  (fun V hV=>by
   unfold opt OQ
   split
   ·rename_i t ht;by_cases hq:(p s1).2.2=none
    ·rw[if_pos hq]at ht;obtain rfl:=Option.some.inj ht;exact hT hq V fun j j1 j2=>hV j (by omega) j2
    ·rw[if_neg hq]at ht;cases ht
   ·trivial) (one5 _ _ _ _ _ _ _ _ _ _ _) rfl hl
 have hw3:(w3.alloc (.cells #[.int .i64 K,.string S,.slice pn nn cn,.slice pe ne ce,.slice pp np cp] 27)).heap.size=w3.heap.size+1:=by simp
 have hsz:=hk.size;refine⟨g,cap,W4,e,hrow _ (fun k hk1 hk2=>?_),?_,?_,fun k hk=>?_⟩
 ·have hkg:g=k:=Option.some.inj (show(some g:Option Nat)=some k from hk1);subst hkg;rcases hgg with h|h
  ·exact h
  ·omega
 ·exact(hR.alloc _).on (hbel.mono (by omega)) (hkeep b (by have:=hR.lt;omega) fun e=>by have:=(hown b e.symm).1;omega)
 ·exact(hk.mono (by omega)).trans ((Kl.refl b lo w3).alloc (by omega) (by omega) _ |>.trans (.of_below hbel (by omega)))
 ·rcases hk with hk|hk
  ·have:=(hown k hk).1;omega
  ·omega
end Go.Proofs.YtdamlfkieecnjaaGreatDoor
namespace Go.Proofs.YtdamlfkieecnjaaGreatDoor
open Go Go.RowKit Lx
theorem qs_none {ts:List Tok} {i:Nat} {y a:Int}:(qs ts i y a).2=none↔y=0:=by
 unfold qs
 split <;> simp[*]
theorem zdm {s:RS} {m:Bs} (h:goOn s m=true):s.2=none/\JB s m=false:=by
 simp only[goOn,Bool.and_eq_true]at h;exact⟨by simpa using h.1,by simpa using h.2⟩
theorem sig_q (b:Nat) (en:Int) (ts:List Tok) (hn:ts.length<=100000) (d:Nat) (p:RS->Ty (d+1)×RS) (hp:Takes p) (deep:Int) (hP:zcz b en ts 45 #[rp b,.int .i64 deep] d p) (s:RS) (w:World) (h:RqAt b en ts s w) :
  Calls Tryz.prog 96 #[rp b,.int .i64 deep] w fun e w'=>∃v,e=.returned v/\RqAt b en ts (sigR en (opt p) s).2 w'/\Kx b w w'/\Row 27 5 (OQ d) w.heap.size (OwnOf v) w' v (sigR en (opt p) s).1:=by
 have hl:=h.lt;have TK:=J4 (zeb b en ts hn s [40] w h);have TKA:=J4 (fun s m=>zeb b en ts hn s m);have ISA:=J4 (fun s m=>is_q b en ts s m);have HP:=J4 hP;have HH:=J4 hp;unfold sigR;obtain⟨s0,hs0⟩:∃s0,s0=Je en s [40]:=⟨_,rfl⟩
 rw[<-hs0]at TK ⊢;obtain⟨q,hq⟩:∃q,q=sigL en (opt p) (mz s0+1) [] s0:=⟨_,rfl⟩
 rw[<-hq];have HQ:=J4 hq;have HN:Hid (s0.1.length<=100000):=by
  rw[hs0];show _<=_;obtain⟨i,y,a,-,e⟩:=h;have h1:=JK en s [40];have h2:s.1.length<=ts.length:=by rw[e];unfold qs;split <;> simp
  omega
 clear hs0 hq h hP hp;go_enter Tryz.func96,Tryz.ntmps96;go_wp2_with (go_at_call 99;refine(J0 TK).mono ?_;clear TK;rintro e w2 ⟨rfl,r1,r2⟩;have R1:=J4 r1;have R2:=J4 r2;clear r1 r2)
 go_loopg [5] (mz s0) (fun gk v wr=>∃(f:Nat) (l:List (Option (Ty (d+1)))) (s2:RS),Hid (mz s2=gk/\gk<f/\l.length+gk<=mz s0)/\Hid (q=sigL en (opt p) f l s2)/\Hid (RqAt b en ts s2 wr)/\Hid (Row 27 5 (OQ d) w.heap.size (OwnOf v) wr v l)/\Hid (Kl b w.heap.size w wr))
 case atStart=>exact⟨mz s0+1,[],s0,⟨rfl,by omega,by simp⟩,J0 HQ,J0 R1,Row.nil _ _ _,J0 R2⟩
 case round=>
  obtain⟨f,l,s2,HF,HE,HR,HW,HK⟩:=hrel;have hz:=(J0 HK).size;obtain⟨vp,vc,hv,hvc,hvm⟩:=(J0 HW).slice;subst hv;have HLl:Hid (l.length<=200000):=by
   have h1:=J0 HF;have h2:=J0 HN;have h3:mz s0<=s0.1.length+1:=by unfold mz;split <;> omega
   show _<=_;omega
  obtain⟨i,y,a,hq0,hqs⟩:=id (J0 HR);obtain⟨pp0,c,h1,h2,h3⟩:=id hq0;obtain⟨⟨c0,c1,c2,c3,c4⟩,cf⟩:=zc0 h1
  cases f with
  | zero=>exact absurd (J0 HF).2.1 (by omega)
  | succ f=>
  by_cases hg:goOn s2 [41]=true
  ·obtain⟨hg1,hg2⟩:=zdm hg;have hy:y=0:=by rw[hqs]at hg1;exact qs_none.1 hg1
   subst hy;have IS:=J4 (J0 ISA s2 [41] wr (J0 HR));rw[hg2]at IS;obtain⟨s1,hs1⟩:∃s1,s1=(if l.isEmpty=true then s2 else Je en s2 [44]):=⟨_,rfl⟩
   have HM:Hid (mz (p s1).2<gk):=by
    have h4:=(J0 HH).mz (en:=en) (l:=l.isEmpty) hg;rw[<-hs1]at h4;show _<_;rw[<-(J0 HF).1];exact h4
   have HE2:Hid (q=sigL en (opt p) f (l++[(opt p s1).1]) (p s1).2):=by
    have h4:=J0 HE;rw[sigL,if_pos hg]at h4;rw[hs1];exact h4
   clear HE hg hg1 hg2 hq0 hqs h1 h2;by_cases hle:l=[]
   ·have e1:s1=s2:=by rw[hs1,hle];rfl
    have hll:(l.length:Int)<=0:=by rw[hle];simp
    subst e1;clear hs1 hle;go_wp2_with (first|(go_at_call 64;refine(J0 IS).mono ?_;clear IS;rintro e w3 ⟨rfl,r1,r2⟩;have R4:=J4 r1;have K4:=J4 r2;clear r1 r2)|(go_at_call 45;refine(J0 HP s1 _ (J0 R4)).mono ?_;rintro e w5 ⟨K,S,pn,pe,pp,nn,cn,ne,ce,np,cp,rfl,q1,q2,q3⟩;obtain⟨g,cap,W4,e4,hrow,hR5,hK5,-⟩:=sig_row (J0 HW) hz hl (J0 K4).size (Kl.on (J0 K4) q2) q1 q3 (by have:=J0 HLl;omega);have HE4:=J4 e4;have HW5:=J4 hrow;have HR5:=J4 hR5;have HK5:=J4 ((J0 HK).trans hK5);clear e4 hrow hR5 hK5 q1 q2 q3)|(at_builtin;refine zay rfl (.tmp 23) (.tmp 27) 25 rfl rfl rfl (J0 HE4) ?_;clear HE4));go_roundg (mz (p s1).2)
    case measure=>exact J0 HM
    case rel=>exact⟨f,l++[(opt p s1).1],(p s1).2,⟨rfl,by have:=J0 HF;have:=J0 HM;omega,by have:=J0 HF;have:=J0 HM;simp;omega⟩,J0 HE2,J0 HR5,J0 HW5,J0 HK5⟩
   ·have e1:s1=Je en s2 [44]:=by rw[hs1,if_neg (by simpa using hle)]
    have hll:0<(l.length:Int):=by have:=List.length_pos_iff.2 hle;omega
    have TC:=J4 (J0 TKA s2 [44]);rw[<-e1]at TC;clear hs1 hle e1;go_wp2_with (first|(go_at_call 64;refine(J0 IS).mono ?_;clear IS;rintro e w3 ⟨rfl,r1,r2⟩;have R3:=J4 r1;have K3:=J4 r2;clear r1 r2)|(go_at_call 99;refine(J0 TC _ (J0 R3)).mono ?_;clear TC;rintro e w4 ⟨rfl,r1,r2⟩;have R4:=J4 r1;have K4:=J4 (Kl.on (J0 K3) r2);clear r1 r2)|(go_at_call 45;refine(J0 HP s1 _ (J0 R4)).mono ?_;rintro e w5 ⟨K,S,pn,pe,pp,nn,cn,ne,ce,np,cp,rfl,q1,q2,q3⟩;obtain⟨g,cap,W4,e4,hrow,hR5,hK5,-⟩:=sig_row (J0 HW) hz hl (J0 K4).size (Kl.on (J0 K4) q2) q1 q3 (by have:=J0 HLl;omega);have HE4:=J4 e4;have HW5:=J4 hrow;have HR5:=J4 hR5;have HK5:=J4 ((J0 HK).trans hK5);clear e4 hrow hR5 hK5 q1 q2 q3)|(at_builtin;refine zay rfl (.tmp 23) (.tmp 27) 25 rfl rfl rfl (J0 HE4) ?_;clear HE4));go_roundg (mz (p s1).2)
    case measure=>exact J0 HM
    case rel=>exact⟨f,l++[(opt p s1).1],(p s1).2,⟨rfl,by have:=J0 HF;have:=J0 HM;omega,by have:=J0 HF;have:=J0 HM;simp;omega⟩,J0 HE2,J0 HR5,J0 HW5,J0 HK5⟩
  ·have hq2:q=(l,s2):=by
    have h4:=J0 HE;rw[sigL,if_neg hg]at h4;exact h4
   subst hq2;obtain⟨s5,hs5⟩:∃s5,s5=Je en s2 [41]:=⟨_,rfl⟩
   have TC:=J4 (J0 TKA s2 [41]);rw[<-hs5]at TC;have HS5:=J4 hs5;clear hs5 HE hq0 h1 h2;by_cases hy:y=0
   ·have hacc:JB s2 [41]=true:=by
     have h5:s2.2=none:=by rw[hqs];exact qs_none.2 hy
     simp[goOn,h5]at hg;exact hg
    subst hy;have IS:=J4 (J0 ISA s2 [41] wr (J0 HR));rw[hacc]at IS;clear hacc hg hqs;go_wp2_with (first|(go_at_call 64;refine(J0 IS).mono ?_;clear IS;rintro e w3 ⟨rfl,r1,r2⟩;have R3:=J4 r1;have K3:=J4 r2;clear r1 r2)|(go_at_call 99;refine(J0 TC _ (J0 R3)).mono ?_;clear TC;rintro e w4 ⟨rfl,r1,r2⟩;have R4:=J4 r1;have K4:=J4 (Kl.on (J0 K3) r2);clear r1 r2)|(go_at_call 45;refine(J0 HP s5 _ (J0 R4)).mono ?_;rintro e w5 ⟨K,S,pn,pe,pp,nn,cn,ne,ce,np,cp,rfl,q1,q2,q3⟩;obtain⟨g,cap,W4,e4,hrow,hR5,hK5,-⟩:=sig_row (J0 HW) hz hl (J0 K4).size (Kl.on (J0 K4) q2) q1 q3 (by have:=J0 HLl;omega);have HE4:=J4 e4;have HW5:=J4 hrow;have HR5:=J4 hR5;have HK5:=J4 ((J0 HK).trans hK5);clear e4 hrow hR5 hK5 q1 q2 q3)|(at_builtin;refine zay rfl (.tmp 31) (.tmp 35) 25 rfl rfl rfl (J0 HE4) ?_;clear HE4));go_ret;exact⟨_,rfl,by rw[<-J0 HS5];exact J0 HR5,J0 HK5,by rw[<-J0 HS5];exact J0 HW5⟩
   ·have hy1:(y==0)=false:=by simpa using hy
    have hy2:decide (y=0)=false:=by simpa using hy
    have R3:=J4 (J0 HR);have K3:=J4 (Kl.refl b wr.heap.size wr);clear hg hqs;go_wp2_with (first|(go_at_call 99;refine(J0 TC _ (J0 R3)).mono ?_;clear TC;rintro e w4 ⟨rfl,r1,r2⟩;have R4:=J4 r1;have K4:=J4 (Kl.on (J0 K3) r2);clear r1 r2)|(go_at_call 45;refine(J0 HP s5 _ (J0 R4)).mono ?_;rintro e w5 ⟨K,S,pn,pe,pp,nn,cn,ne,ce,np,cp,rfl,q1,q2,q3⟩;obtain⟨g,cap,W4,e4,hrow,hR5,hK5,-⟩:=sig_row (J0 HW) hz hl (J0 K4).size (Kl.on (J0 K4) q2) q1 q3 (by have:=J0 HLl;omega);have HE4:=J4 e4;have HW5:=J4 hrow;have HR5:=J4 hR5;have HK5:=J4 ((J0 HK).trans hK5);clear e4 hrow hR5 hK5 q1 q2 q3)|(at_builtin;refine zay rfl (.tmp 31) (.tmp 35) 25 rfl rfl rfl (J0 HE4) ?_;clear HE4));go_ret;exact⟨_,rfl,by rw[<-J0 HS5];exact J0 HR5,J0 HK5,by rw[<-J0 HS5];exact J0 HW5⟩
end Go.Proofs.YtdamlfkieecnjaaGreatDoor
namespace Go.Proofs.YtdamlfkieecnjaaGreatDoor
open Go Go.RowKit Lx
theorem zac {s:RS} (h:za2 (J5 s)=true):s.1≠[]:=fun e=>by
 simp[J5,e,za2,isM,zcr]at h
def QHead (b:Nat) (en:Int) (ts:List Tok) (s:RS) (w:World) (x:Bool):Prop:=
 ∀W,RqAt b en ts s W->Kx b (w.alloc tyO) W->Calls Tryz.prog 94 #[rp b,.int .i64 2] W fun e w'=>e=.returned (.bool x)/\RqAt b en ts s w'/\Kx b (w.alloc tyO) w'
theorem qHead (b:Nat) (en:Int) (ts:List Tok) (s:RS) (w:World) (x:Bool) (hx:((J5 s).2.1==2)=x):QHead b en ts s w x:=fun W h1 h2=>by
 have:=kind_q b en ts s 2 (by decide) W h1;rw[hx]at this;exact this.mono fun e w' ⟨r1,r2,r3⟩=>⟨r1,r2,Kl.on h2 r3⟩
theorem typed_name (b:Nat) (en:Int) (ts:List Tok) (hn:ts.length<=100000) (s:RS) (deep:Int) (hd:deep<=64) (hx:za2 (J5 s)=true) (hk:(J5 s).2.1=2) (w:World) (h:RqAt b en ts s w) :
  Calls Tryz.prog 45 #[rp b,.int .i64 deep] w fun e w'=>e=.returned (Jc 4 ⟨(J5 s).2.2.1.toArray⟩ none none none 0 0 0 0 0 0)/\RqAt b en ts (J7 s) w'/\Kx b w w':=by
 have hl:=h.lt;have BG:=J4 (zaj b en ts s (w.alloc tyO) (h.alloc tyO));have KD:=J4 (qHead b en ts s w true (by simpa using hk));have WD:=J4 (word_q b en ts hn s 2 (by decide));rw[show JX en s 2=J7 s by simp[JX,hk],show JF s 2=J5 s by simp[JF,hk]]at WD;rw[hx]at BG;obtain⟨S,hS⟩:∃S,S=(J5 s).2.2.1:=⟨_,rfl⟩
 rw[<-hS]at WD ⊢;clear hx h hk hS;go_enter Tryz.func45,Tryz.ntmps45;go_wp2_with (first|(go_at_call 93;refine(J0 BG).mono ?_;clear BG;rintro e w2 ⟨rfl,r1,r2⟩;have R1:=J4 r1;have R2:=J4 r2;clear r1 r2)|(go_at_call 94;refine(J0 KD _ (J0 R1) (J0 R2)).mono ?_;clear KD;rintro e w3 ⟨rfl,r1,r2⟩;have R3:=J4 r1;have R4:=J4 r2;clear r1 r2)|(go_at_call 95;refine(J0 WD _ (J0 R3)).mono ?_;clear WD;rintro e w4 ⟨rfl,q1,q2⟩;have K4:Kx b (w.alloc tyO) w4:=Kl.on (J0 R4) q2;have k3:w4.heap[w.heap.size]?=some tyO:=(K4.2 _ (by simp) (by omega)).trans (J6 w tyO);obtain⟨⟨z0,z1,z2,z3,z4⟩,zf⟩:=J8 k3;have K3:=J4 k3;have Q1:=J4 q1;have Q2:=J4 K4;clear q1 q2 k3 K4));obtain⟨Wf,hWf⟩:∃Wf:World,Wf=((((w4.setCell ⟨w.heap.size,0,none⟩ (.int .i64 4)).setCell ⟨w.heap.size,1,none⟩ (.string ⟨S.toArray⟩)).setCell ⟨w.heap.size,2,none⟩ (.slice none 0 0)).setCell ⟨w.heap.size,3,none⟩ (.slice none 0 0)).setCell ⟨w.heap.size,4,none⟩ (.slice none 0 0):=⟨_,rfl⟩
 rw[<-hWf];have hK:Kl b w.heap.size w w4:=Kl.on (.of_below (zb2 tyO) (Nat.le_of_lt hl)) (J0 Q2);obtain⟨d1,d2,d3,-⟩:=q_put (J0 K3) (J0 Q1) hK hl (Nat.le_refl _) Wf hWf;obtain⟨⟨y0,y1,y2,y3,y4⟩,-⟩:=J8 d1;exact bodyPost_ret (v:=Jc 4 ⟨S.toArray⟩ none none none 0 0 0 0 0 0) (by simp[results,Tryz.results45,go_sem,y0,y1,y2,y3,y4]) rfl ⟨rfl,d2,d3⟩
theorem typed_int (b:Nat) (en:Int) (ts:List Tok) (hn:ts.length<=100000) (s:RS) (deep:Int) (hd:deep<=64) (hx:za2 (J5 s)=true) (hk:¬(J5 s).2.1=2) (hS:(J5 s).2.2.1=[105,110,116]) (w:World) (h:RqAt b en ts s w) :
  Calls Tryz.prog 45 #[rp b,.int .i64 deep] w fun e w'=>e=.returned (Jc 1 ⟨#[]⟩ none none none 0 0 0 0 0 0)/\RqAt b en ts (J7 s) w'/\Kx b w w':=by
 have hl:=h.lt;have hso:=zac hx;have BG:=J4 (zaj b en ts s (w.alloc tyO) (h.alloc tyO));have KD:=J4 (qHead b en ts s w false (by simpa using hk));rw[hx]at BG;clear hx h hk;go_enter Tryz.func45,Tryz.ntmps45;go_upto_region 9 with(first|(go_at_call 93;refine(J0 BG).mono ?_;clear BG;rintro e w2 ⟨rfl,r1,r2⟩;have R1:=J4 r1;have R2:=J4 r2;clear r1 r2)|(go_at_call 94;refine(J0 KD _ (J0 R1) (J0 R2)).mono ?_;clear KD;rintro e w3 ⟨rfl,r1,r2⟩;have R3:=J4 r1;have R4:=J4 r2;clear r1 r2))
 obtain⟨i,y,a,hq,rfl⟩:=J0 R3;obtain⟨rfl,hi⟩:=zaz hso;obtain⟨t,ht⟩:∃t,ts[i]?=some t:=⟨_,List.getElem?_eq_getElem hi⟩
 obtain⟨p,c,h1,h2,h3⟩:=id hq;obtain⟨g,o,rfl,t0,t1,t2,t3⟩:=h2.tok ht;obtain⟨⟨c0,c1,c2,c3,c4⟩,cf⟩:=zc0 h1;have hSt:t.2.2.1=[105,110,116]:=by rw[<-hS];simp[qs,zdy ht,J5]
 rw[hSt]at t2;have HQ:=J4 hq;have hi2:(i:Int)<(ts.length:Int):=by omega
 have hw:IntKind.i64.wrap ((i:Int)+1)=(i:Int)+1:=by rw[IntKind.wrap_i64];omega
 clear hq h1 h2 hS hSt ht t0 t1 t3 hso;go_quiet (fail);obtain⟨W2,hW2⟩:∃W2:World,W2=w3.drewN nq:=⟨_,rfl⟩
 have q1:QAt b en ts i 0 a W2:=(J0 HQ).kept (by rw[hW2];exact(Kl.refl _ _ _).drewN nq) (by rw[hW2];rfl);have K2:Kx b (w.alloc tyO) W2:=by rw[hW2];exact(J0 R4).drewN nq
 obtain⟨p2,c',e1,e2,e3⟩:=id q1;have k3:W2.heap[w.heap.size]?=some tyO:=(K2.2 _ (by simp) (by omega)).trans (J6 w tyO);have Q1:=J4 q1;have QK:=J4 K2;have K3:=J4 k3;rw[<-hW2];clear c0 c1 c2 c3 c4 cf t2 hW2 HQ R3 R4 q1 K2;obtain⟨⟨c0,c1,c2,c3,c4⟩,cf⟩:=zc0 e1;clear e1 e2;go_upto_region 11 with fail
 obtain⟨W3,hW3⟩:∃W3:World,W3=W2.setCell ⟨b,2,none⟩ (.int .i64 ((i:Int)+1)):=⟨_,rfl⟩
 have n3:W3.heap[w.heap.size]?=some tyO:=by rw[hW3];exact(Below.heap_setCell _ _ _ _ (by show w.heap.size≠b;omega)).trans (J0 K3)
 have RT:Hid (RqAt b en ts (J7 (qs ts i 0 a)) W3):=by
  have:=(J0 Q1).next hi;rwa[show((i+1:Nat):Int)=(i:Int)+1 by omega,<-hW3]at this
 have KT:Hid (Kx b (w.alloc tyO) W3):=by rw[hW3];exact(J0 QK).set _
 rw[<-hW3];have N3:=J4 n3;obtain⟨⟨z0,z1,z2,z3,z4⟩,zf⟩:=J8 n3;clear hW3 c0 c1 c2 c3 c4 cf Q1 QK K3 n3 k3;go_wp2;obtain⟨Wf,hWf⟩:∃Wf:World,Wf=((((W3.setCell ⟨w.heap.size,0,none⟩ (.int .i64 1)).setCell ⟨w.heap.size,1,none⟩ (.string ⟨#[]⟩)).setCell ⟨w.heap.size,2,none⟩ (.slice none 0 0)).setCell ⟨w.heap.size,3,none⟩ (.slice none 0 0)).setCell ⟨w.heap.size,4,none⟩ (.slice none 0 0):=⟨_,rfl⟩
 rw[<-hWf];have hK:Kl b w.heap.size w W3:=Kl.on (.of_below (zb2 tyO) (Nat.le_of_lt hl)) (J0 KT);obtain⟨d1,d2,d3,-⟩:=q_put (J0 N3) (J0 RT) hK hl (Nat.le_refl _) Wf hWf;obtain⟨⟨y0,y1,y2,y3,y4⟩,-⟩:=J8 d1;exact bodyPost_ret (v:=Jc 1 ⟨#[]⟩ none none none 0 0 0 0 0 0) (by simp[results,Tryz.results45,go_sem,y0,y1,y2,y3,y4]) rfl ⟨rfl,d2,d3⟩
theorem typed_bool (b:Nat) (en:Int) (ts:List Tok) (hn:ts.length<=100000) (s:RS) (deep:Int) (hd:deep<=64) (hx:za2 (J5 s)=true) (hk:¬(J5 s).2.1=2) (hS:(J5 s).2.2.1=[98,111,111,108]) (w:World) (h:RqAt b en ts s w) :
  Calls Tryz.prog 45 #[rp b,.int .i64 deep] w fun e w'=>e=.returned (Jc 2 ⟨#[]⟩ none none none 0 0 0 0 0 0)/\RqAt b en ts (J7 s) w'/\Kx b w w':=by
 have hl:=h.lt;have hso:=zac hx;have BG:=J4 (zaj b en ts s (w.alloc tyO) (h.alloc tyO));have KD:=J4 (qHead b en ts s w false (by simpa using hk));rw[hx]at BG;clear hx h hk;go_enter Tryz.func45,Tryz.ntmps45;go_upto_region 9 with(first|(go_at_call 93;refine(J0 BG).mono ?_;clear BG;rintro e w2 ⟨rfl,r1,r2⟩;have R1:=J4 r1;have R2:=J4 r2;clear r1 r2)|(go_at_call 94;refine(J0 KD _ (J0 R1) (J0 R2)).mono ?_;clear KD;rintro e w3 ⟨rfl,r1,r2⟩;have R3:=J4 r1;have R4:=J4 r2;clear r1 r2))
 obtain⟨i,y,a,hq,rfl⟩:=J0 R3;obtain⟨rfl,hi⟩:=zaz hso;obtain⟨t,ht⟩:∃t,ts[i]?=some t:=⟨_,List.getElem?_eq_getElem hi⟩
 obtain⟨p,c,h1,h2,h3⟩:=id hq;obtain⟨g,o,rfl,t0,t1,t2,t3⟩:=h2.tok ht;obtain⟨⟨c0,c1,c2,c3,c4⟩,cf⟩:=zc0 h1;have hSt:t.2.2.1=[98,111,111,108]:=by rw[<-hS];simp[qs,zdy ht,J5]
 rw[hSt]at t2;have HQ:=J4 hq;have hi2:(i:Int)<(ts.length:Int):=by omega
 have hw:IntKind.i64.wrap ((i:Int)+1)=(i:Int)+1:=by rw[IntKind.wrap_i64];omega
 clear hq h1 h2 hS hSt ht t0 t1 t3 hso;go_quiet (fail);obtain⟨W2,hW2⟩:∃W2:World,W2=w3.drewN nq:=⟨_,rfl⟩
 have q1:QAt b en ts i 0 a W2:=(J0 HQ).kept (by rw[hW2];exact(Kl.refl _ _ _).drewN nq) (by rw[hW2];rfl);have K2:Kx b (w.alloc tyO) W2:=by rw[hW2];exact(J0 R4).drewN nq
 obtain⟨p2,c',e1,e2,e3⟩:=id q1;have k3:W2.heap[w.heap.size]?=some tyO:=(K2.2 _ (by simp) (by omega)).trans (J6 w tyO);have Q1:=J4 q1;have QK:=J4 K2;have K3:=J4 k3;rw[<-hW2];clear c0 c1 c2 c3 c4 cf t2 hW2 HQ R3 R4 q1 K2;obtain⟨⟨c0,c1,c2,c3,c4⟩,cf⟩:=zc0 e1;clear e1 e2;go_upto_region 11 with fail
 obtain⟨W3,hW3⟩:∃W3:World,W3=W2.setCell ⟨b,2,none⟩ (.int .i64 ((i:Int)+1)):=⟨_,rfl⟩
 have n3:W3.heap[w.heap.size]?=some tyO:=by rw[hW3];exact(Below.heap_setCell _ _ _ _ (by show w.heap.size≠b;omega)).trans (J0 K3)
 have RT:Hid (RqAt b en ts (J7 (qs ts i 0 a)) W3):=by
  have:=(J0 Q1).next hi;rwa[show((i+1:Nat):Int)=(i:Int)+1 by omega,<-hW3]at this
 have KT:Hid (Kx b (w.alloc tyO) W3):=by rw[hW3];exact(J0 QK).set _
 rw[<-hW3];have N3:=J4 n3;obtain⟨⟨z0,z1,z2,z3,z4⟩,zf⟩:=J8 n3;clear hW3 c0 c1 c2 c3 c4 cf Q1 QK K3 n3 k3;go_wp2;obtain⟨Wf,hWf⟩:∃Wf:World,Wf=((((W3.setCell ⟨w.heap.size,0,none⟩ (.int .i64 2)).setCell ⟨w.heap.size,1,none⟩ (.string ⟨#[]⟩)).setCell ⟨w.heap.size,2,none⟩ (.slice none 0 0)).setCell ⟨w.heap.size,3,none⟩ (.slice none 0 0)).setCell ⟨w.heap.size,4,none⟩ (.slice none 0 0):=⟨_,rfl⟩
 rw[<-hWf];have hK:Kl b w.heap.size w W3:=Kl.on (.of_below (zb2 tyO) (Nat.le_of_lt hl)) (J0 KT);obtain⟨d1,d2,d3,-⟩:=q_put (J0 N3) (J0 RT) hK hl (Nat.le_refl _) Wf hWf;obtain⟨⟨y0,y1,y2,y3,y4⟩,-⟩:=J8 d1;exact bodyPost_ret (v:=Jc 2 ⟨#[]⟩ none none none 0 0 0 0 0 0) (by simp[results,Tryz.results45,go_sem,y0,y1,y2,y3,y4]) rfl ⟨rfl,d2,d3⟩
theorem typed_text (b:Nat) (en:Int) (ts:List Tok) (hn:ts.length<=100000) (s:RS) (deep:Int) (hd:deep<=64) (hx:za2 (J5 s)=true) (hk:¬(J5 s).2.1=2) (hS:(J5 s).2.2.1=[116,101,120,116]) (w:World) (h:RqAt b en ts s w) :
  Calls Tryz.prog 45 #[rp b,.int .i64 deep] w fun e w'=>e=.returned (Jc 3 ⟨#[]⟩ none none none 0 0 0 0 0 0)/\RqAt b en ts (J7 s) w'/\Kx b w w':=by
 have hl:=h.lt;have hso:=zac hx;have BG:=J4 (zaj b en ts s (w.alloc tyO) (h.alloc tyO));have KD:=J4 (qHead b en ts s w false (by simpa using hk));rw[hx]at BG;clear hx h hk;go_enter Tryz.func45,Tryz.ntmps45;go_upto_region 9 with(first|(go_at_call 93;refine(J0 BG).mono ?_;clear BG;rintro e w2 ⟨rfl,r1,r2⟩;have R1:=J4 r1;have R2:=J4 r2;clear r1 r2)|(go_at_call 94;refine(J0 KD _ (J0 R1) (J0 R2)).mono ?_;clear KD;rintro e w3 ⟨rfl,r1,r2⟩;have R3:=J4 r1;have R4:=J4 r2;clear r1 r2))
 obtain⟨i,y,a,hq,rfl⟩:=J0 R3;obtain⟨rfl,hi⟩:=zaz hso;obtain⟨t,ht⟩:∃t,ts[i]?=some t:=⟨_,List.getElem?_eq_getElem hi⟩
 obtain⟨p,c,h1,h2,h3⟩:=id hq;obtain⟨g,o,rfl,t0,t1,t2,t3⟩:=h2.tok ht;obtain⟨⟨c0,c1,c2,c3,c4⟩,cf⟩:=zc0 h1;have hSt:t.2.2.1=[116,101,120,116]:=by rw[<-hS];simp[qs,zdy ht,J5]
 rw[hSt]at t2;have HQ:=J4 hq;have hi2:(i:Int)<(ts.length:Int):=by omega
 have hw:IntKind.i64.wrap ((i:Int)+1)=(i:Int)+1:=by rw[IntKind.wrap_i64];omega
 clear hq h1 h2 hS hSt ht t0 t1 t3 hso;go_quiet (fail);obtain⟨W2,hW2⟩:∃W2:World,W2=w3.drewN nq:=⟨_,rfl⟩
 have q1:QAt b en ts i 0 a W2:=(J0 HQ).kept (by rw[hW2];exact(Kl.refl _ _ _).drewN nq) (by rw[hW2];rfl);have K2:Kx b (w.alloc tyO) W2:=by rw[hW2];exact(J0 R4).drewN nq
 obtain⟨p2,c',e1,e2,e3⟩:=id q1;have k3:W2.heap[w.heap.size]?=some tyO:=(K2.2 _ (by simp) (by omega)).trans (J6 w tyO);have Q1:=J4 q1;have QK:=J4 K2;have K3:=J4 k3;rw[<-hW2];clear c0 c1 c2 c3 c4 cf t2 hW2 HQ R3 R4 q1 K2;obtain⟨⟨c0,c1,c2,c3,c4⟩,cf⟩:=zc0 e1;clear e1 e2;go_upto_region 11 with fail
 obtain⟨W3,hW3⟩:∃W3:World,W3=W2.setCell ⟨b,2,none⟩ (.int .i64 ((i:Int)+1)):=⟨_,rfl⟩
 have n3:W3.heap[w.heap.size]?=some tyO:=by rw[hW3];exact(Below.heap_setCell _ _ _ _ (by show w.heap.size≠b;omega)).trans (J0 K3)
 have RT:Hid (RqAt b en ts (J7 (qs ts i 0 a)) W3):=by
  have:=(J0 Q1).next hi;rwa[show((i+1:Nat):Int)=(i:Int)+1 by omega,<-hW3]at this
 have KT:Hid (Kx b (w.alloc tyO) W3):=by rw[hW3];exact(J0 QK).set _
 rw[<-hW3];have N3:=J4 n3;obtain⟨⟨z0,z1,z2,z3,z4⟩,zf⟩:=J8 n3;clear hW3 c0 c1 c2 c3 c4 cf Q1 QK K3 n3 k3;go_wp2;obtain⟨Wf,hWf⟩:∃Wf:World,Wf=((((W3.setCell ⟨w.heap.size,0,none⟩ (.int .i64 3)).setCell ⟨w.heap.size,1,none⟩ (.string ⟨#[]⟩)).setCell ⟨w.heap.size,2,none⟩ (.slice none 0 0)).setCell ⟨w.heap.size,3,none⟩ (.slice none 0 0)).setCell ⟨w.heap.size,4,none⟩ (.slice none 0 0):=⟨_,rfl⟩
 rw[<-hWf];have hK:Kl b w.heap.size w W3:=Kl.on (.of_below (zb2 tyO) (Nat.le_of_lt hl)) (J0 KT);obtain⟨d1,d2,d3,-⟩:=q_put (J0 N3) (J0 RT) hK hl (Nat.le_refl _) Wf hWf;obtain⟨⟨y0,y1,y2,y3,y4⟩,-⟩:=J8 d1;exact bodyPost_ret (v:=Jc 3 ⟨#[]⟩ none none none 0 0 0 0 0 0) (by simp[results,Tryz.results45,go_sem,y0,y1,y2,y3,y4]) rfl ⟨rfl,d2,d3⟩
end Go.Proofs.YtdamlfkieecnjaaGreatDoor
namespace Go.Proofs.YtdamlfkieecnjaaGreatDoor
open Go Go.RowKit Lx
theorem typed_ptr (b:Nat) (en:Int) (ts:List Tok) (hn:ts.length<=100000) (s:RS) (deep:Int) (hd0:0<=deep) (hd:deep<=64) (hx:za2 (J5 s)=true) (hk:¬(J5 s).2.1=2) (hS:(J5 s).2.2.1=[42]) (d:Nat) (Q:RS->Ty (d+1)×RS) (hQ:zcz b en ts 45 #[rp b,.int .i64 (deep+1)] d Q) (w:World) (h:RqAt b en ts s w) :
  Calls Tryz.prog 45 #[rp b,.int .i64 deep] w fun e w'=>∃(K:Int) (S:ByteArray) (pn pe pp:Option Addr) (nn cn ne ce np cp:Nat),e=.returned (Jc K S pn pe pp nn cn ne ce np cp)/\RqAt b en ts (Q (J7 s)).2 w'/\Kx b w w'/\((Q (J7 s)).2.2=none->∀V:World,(∀j,w.heap.size<=j->j<w'.heap.size->V.heap[j]?=w'.heap[j]?)->TyV V (d+1) (Jc K S pn pe pp nn cn ne ce np cp) (zaf (d+1) 5 [] [] [] [(Q (J7 s)).1])):=by
 have HG:=J4 hQ;clear hQ;have hl:=h.lt;have hso:=zac hx;have BG:=J4 (zaj b en ts s (w.alloc tyO) (h.alloc tyO));have KD:=J4 (qHead b en ts s w false (by simpa using hk));rw[hx]at BG;clear hx h hk;go_enter Tryz.func45,Tryz.ntmps45;go_upto_region 9 with(first|(go_at_call 93;refine(J0 BG).mono ?_;clear BG;rintro e w2 ⟨rfl,r1,r2⟩;have R1:=J4 r1;have R2:=J4 r2;clear r1 r2)|(go_at_call 94;refine(J0 KD _ (J0 R1) (J0 R2)).mono ?_;clear KD;rintro e w3 ⟨rfl,r1,r2⟩;have R3:=J4 r1;have R4:=J4 r2;clear r1 r2))
 obtain⟨i,y,a,hq,rfl⟩:=J0 R3;obtain⟨rfl,hi⟩:=zaz hso;obtain⟨t,ht⟩:∃t,ts[i]?=some t:=⟨_,List.getElem?_eq_getElem hi⟩
 obtain⟨p,c,h1,h2,h3⟩:=id hq;obtain⟨g,o,rfl,t0,t1,t2,t3⟩:=h2.tok ht;obtain⟨⟨c0,c1,c2,c3,c4⟩,cf⟩:=zc0 h1;have hSt:t.2.2.1=[42]:=by rw[<-hS];simp[qs,zdy ht,J5]
 rw[hSt]at t2;have HQ:=J4 hq;have hi2:(i:Int)<(ts.length:Int):=by omega
 have hw:IntKind.i64.wrap ((i:Int)+1)=(i:Int)+1:=by rw[IntKind.wrap_i64];omega
 clear hq h1 h2 hS hSt ht t0 t1 t3 hso;go_quiet (fail);obtain⟨W2,hW2⟩:∃W2:World,W2=w3.drewN nq:=⟨_,rfl⟩
 have q1:QAt b en ts i 0 a W2:=(J0 HQ).kept (by rw[hW2];exact(Kl.refl _ _ _).drewN nq) (by rw[hW2];rfl);have K2:Kx b (w.alloc tyO) W2:=by rw[hW2];exact(J0 R4).drewN nq
 obtain⟨p2,c',e1,e2,e3⟩:=id q1;have k3:W2.heap[w.heap.size]?=some tyO:=(K2.2 _ (by simp) (by omega)).trans (J6 w tyO);have Q1:=J4 q1;have QK:=J4 K2;have K3:=J4 k3;rw[<-hW2];clear c0 c1 c2 c3 c4 cf t2 hW2 HQ R3 R4 q1 K2;obtain⟨⟨c0,c1,c2,c3,c4⟩,cf⟩:=zc0 e1;clear e1 e2;go_upto_region 11 with fail
 obtain⟨W3,hW3⟩:∃W3:World,W3=W2.setCell ⟨b,2,none⟩ (.int .i64 ((i:Int)+1)):=⟨_,rfl⟩
 have n3:W3.heap[w.heap.size]?=some tyO:=by rw[hW3];exact(Below.heap_setCell _ _ _ _ (by show w.heap.size≠b;omega)).trans (J0 K3)
 have RT:Hid (RqAt b en ts (J7 (qs ts i 0 a)) W3):=by
  have:=(J0 Q1).next hi;rwa[show((i+1:Nat):Int)=(i:Int)+1 by omega,<-hW3]at this
 have KT:Hid (Kx b (w.alloc tyO) W3):=by rw[hW3];exact(J0 QK).set _
 rw[<-hW3];have N3:=J4 n3;obtain⟨⟨z0,z1,z2,z3,z4⟩,zf⟩:=J8 n3;clear hW3 c0 c1 c2 c3 c4 cf Q1 QK K3 n3 k3;have hwd:IntKind.i64.wrap (deep+1)=deep+1:=by rw[IntKind.wrap_i64];omega
 have hzW:w.heap.size<W3.heap.size:=(Array.getElem?_eq_some_iff.1 (J0 N3)).1;go_wp2_with (go_at_call 45;refine(J0 HG _ _ (J0 RT)).mono ?_;clear HG z0 z1 z2 z3 z4 zf;rintro e w4 ⟨K,S,pn,pe,pp,nn,cn,ne,ce,np,cp,rfl,q1,q2,q3⟩;have k4:w4.heap[w.heap.size]?=some tyO:=(q2.2 _ hzW (by omega)).trans (J0 N3);have m:=J8 k4;obtain⟨⟨z0,z1,z2,z3,z4⟩,zf⟩:=m;have k5:(w4.alloc (.cells #[.int .i64 K,.string S,.slice pn nn cn,.slice pe ne ce,.slice pp np cp] 27)).heap[w.heap.size]?=some tyO:=(J9 _ _ (Array.getElem?_eq_some_iff.1 k4).1).trans k4;obtain⟨⟨x0,x1,x2,x3,x4⟩,xf⟩:=J8 k5;have K6:=J4 k5;clear k5;have Q1:=J4 q1;have Q2:=J4 (Kl.on (J0 KT) q2);have Q3:=J4 q3;have K5:=J4 k4;clear q1 q2 q3 k4);obtain⟨Wf,hWf⟩:∃Wf:World,Wf=(((((w4.alloc (.cells #[.int .i64 K,.string S,.slice pn nn cn,.slice pe ne ce,.slice pp np cp] 27)).setCell ⟨w.heap.size,0,none⟩ (.int .i64 5)).setCell ⟨w.heap.size,1,none⟩ (.string ⟨#[]⟩)).setCell ⟨w.heap.size,2,none⟩ (.slice none 0 0)).setCell ⟨w.heap.size,3,none⟩ (.slice none 0 0)).setCell ⟨w.heap.size,4,none⟩ (.slice (some ⟨w4.heap.size,0,none⟩) 1 1):=⟨_,rfl⟩
 rw[<-hWf];have hK:Kl b w.heap.size w w4:=Kl.on (.of_below (zb2 tyO) (Nat.le_of_lt hl)) (J0 Q2);have hz4:w.heap.size<w4.heap.size:=(Array.getElem?_eq_some_iff.1 (J0 K5)).1;have hz5:(w4.alloc (.cells #[.int .i64 K,.string S,.slice pn nn cn,.slice pe ne ce,.slice pp np cp] 27)).heap.size=w4.heap.size+1:=by simp
 have hWs:Wf.heap.size=w4.heap.size+1:=by rw[hWf];simp
 obtain⟨d1,d2,d3,d4⟩:=q_put (J0 K6) ((J0 Q1).alloc (.cells #[.int .i64 K,.string S,.slice pn nn cn,.slice pe ne ce,.slice pp np cp] 27)) (hK.alloc (Nat.le_of_lt hl) (by omega) (.cells #[.int .i64 K,.string S,.slice pn nn cn,.slice pe ne ce,.slice pp np cp] 27)) hl (Nat.le_refl _) Wf hWf;obtain⟨⟨y0,y1,y2,y3,y4⟩,-⟩:=J8 d1;exact bodyPost_ret (v:=Jc 5 ⟨#[]⟩ none none (some ⟨w4.heap.size,0,none⟩) 0 0 0 0 1 1) (by simp[results,Tryz.results45,go_sem,y0,y1,y2,y3,y4]) rfl ⟨_,_,_,_,_,_,_,_,_,_,_,rfl,d2,d3,fun hz V hV=>ptrV (((hV _ (by omega) (by omega)).trans (d4 _ (by omega))).trans (J6 _ _)) (J0 Q3 hz V fun j j1 j2=>((hV j (by omega) (by omega)).trans (d4 j (by omega))).trans (J9 _ _ j2))⟩
end Go.Proofs.YtdamlfkieecnjaaGreatDoor
namespace Go.Proofs.YtdamlfkieecnjaaGreatDoor
open Go Go.RowKit Lx
theorem Row.some {T:TypeId} {n d lo:Nat} {M:Nat->Prop} {W:World} {v:Value} {l:List (Ty (d+1))} (h:Row T n (OQ d) lo M W v (l.map Option.some)):Row T n (TQ d) lo M W v l:=by
 obtain⟨es,h1,h2,h3,h4⟩:=h;exact⟨es,by simpa using h1,h2,by simpa using h3,fun j u x hj hx=>h4 j u (Option.some x) hj (by simp[hx])⟩
theorem partsV {d:Nat} {V:World} {K:Int} {pp:Option Addr} {cp:Nat} {l:List (Ty (d+1))} (h:TyRow V (d+1) (.slice pp l.length cp) l):TyV V (d+1) (Jc K ⟨#[]⟩ none none pp 0 0 0 0 l.length cp) (zaf (d+1) K [] [] [] l):=
 ⟨none,none,pp,0,0,cp,rfl,⟨none,0,rfl,fun j t h=>by simp[zaf]at h⟩,⟨none,0,rfl,fun j t h=>by simp[zaf]at h⟩,h⟩
theorem typed_fn (b:Nat) (en:Int) (ts:List Tok) (hn:ts.length<=100000) (s:RS) (deep:Int) (hd0:0<=deep) (hd:deep<=64) (hx:za2 (J5 s)=true) (hk:¬(J5 s).2.1=2) (hS:(J5 s).2.2.1=[102,110]) (d:Nat) (Q:RS->Ty (d+1)×RS) (hQT:Takes Q) (hQ:zcz b en ts 45 #[rp b,.int .i64 (deep+1)] d Q) (w:World) (h:RqAt b en ts s w) :
  Calls Tryz.prog 45 #[rp b,.int .i64 deep] w fun e w'=>∃(pp:Option Addr) (np cp:Nat),e=.returned (Jc 7 ⟨#[]⟩ none none pp 0 0 0 0 np cp)/\RqAt b en ts (sigR en (opt Q) (J7 s)).2 w'/\Kx b w w'/\∀l:List (Ty (d+1)),(sigR en (opt Q) (J7 s)).1=l.map some->∀V:World,(∀j,w.heap.size<=j->j<w'.heap.size->V.heap[j]?=w'.heap[j]?)->TyV V (d+1) (Jc 7 ⟨#[]⟩ none none pp 0 0 0 0 np cp) (zaf (d+1) 7 [] [] [] l):=by
 have HG:=J4 (sig_q b en ts hn d Q hQT (deep+1) hQ);obtain⟨R,hR⟩:∃R,R=sigR en (opt Q) (J7 s):=⟨_,rfl⟩
 rw[<-hR];have HR:=J4 hR;clear hQ hQT hR;have hl:=h.lt;have hso:=zac hx;have BG:=J4 (zaj b en ts s (w.alloc tyO) (h.alloc tyO));have KD:=J4 (qHead b en ts s w false (by simpa using hk));rw[hx]at BG;clear hx h hk;go_enter Tryz.func45,Tryz.ntmps45;go_upto_region 9 with(first|(go_at_call 93;refine(J0 BG).mono ?_;clear BG;rintro e w2 ⟨rfl,r1,r2⟩;have R1:=J4 r1;have R2:=J4 r2;clear r1 r2)|(go_at_call 94;refine(J0 KD _ (J0 R1) (J0 R2)).mono ?_;clear KD;rintro e w3 ⟨rfl,r1,r2⟩;have R3:=J4 r1;have R4:=J4 r2;clear r1 r2))
 obtain⟨i,y,a,hq,rfl⟩:=J0 R3;obtain⟨rfl,hi⟩:=zaz hso;obtain⟨t,ht⟩:∃t,ts[i]?=some t:=⟨_,List.getElem?_eq_getElem hi⟩
 obtain⟨p,c,h1,h2,h3⟩:=id hq;obtain⟨g,o,rfl,t0,t1,t2,t3⟩:=h2.tok ht;obtain⟨⟨c0,c1,c2,c3,c4⟩,cf⟩:=zc0 h1;have hSt:t.2.2.1=[102,110]:=by rw[<-hS];simp[qs,zdy ht,J5]
 rw[hSt]at t2;have HQ:=J4 hq;have hi2:(i:Int)<(ts.length:Int):=by omega
 have hw:IntKind.i64.wrap ((i:Int)+1)=(i:Int)+1:=by rw[IntKind.wrap_i64];omega
 clear hq h1 h2 hS hSt ht t0 t1 t3 hso;go_quiet (fail);obtain⟨W2,hW2⟩:∃W2:World,W2=w3.drewN nq:=⟨_,rfl⟩
 have q1:QAt b en ts i 0 a W2:=(J0 HQ).kept (by rw[hW2];exact(Kl.refl _ _ _).drewN nq) (by rw[hW2];rfl);have K2:Kx b (w.alloc tyO) W2:=by rw[hW2];exact(J0 R4).drewN nq
 obtain⟨p2,c',e1,e2,e3⟩:=id q1;have k3:W2.heap[w.heap.size]?=some tyO:=(K2.2 _ (by simp) (by omega)).trans (J6 w tyO);have Q1:=J4 q1;have QK:=J4 K2;have K3:=J4 k3;rw[<-hW2];clear c0 c1 c2 c3 c4 cf t2 hW2 HQ R3 R4 q1 K2;obtain⟨⟨c0,c1,c2,c3,c4⟩,cf⟩:=zc0 e1;clear e1 e2;go_upto_region 11 with fail
 obtain⟨W3,hW3⟩:∃W3:World,W3=W2.setCell ⟨b,2,none⟩ (.int .i64 ((i:Int)+1)):=⟨_,rfl⟩
 have n3:W3.heap[w.heap.size]?=some tyO:=by rw[hW3];exact(Below.heap_setCell _ _ _ _ (by show w.heap.size≠b;omega)).trans (J0 K3)
 have RT:Hid (RqAt b en ts (J7 (qs ts i 0 a)) W3):=by
  have:=(J0 Q1).next hi;rwa[show((i+1:Nat):Int)=(i:Int)+1 by omega,<-hW3]at this
 have KT:Hid (Kx b (w.alloc tyO) W3):=by rw[hW3];exact(J0 QK).set _
 rw[<-hW3];have N3:=J4 n3;obtain⟨⟨z0,z1,z2,z3,z4⟩,zf⟩:=J8 n3;clear hW3 c0 c1 c2 c3 c4 cf Q1 QK K3 n3 k3;have hwd:IntKind.i64.wrap (deep+1)=deep+1:=by rw[IntKind.wrap_i64];omega
 have hzW:w.heap.size<W3.heap.size:=(Array.getElem?_eq_some_iff.1 (J0 N3)).1;have HG2:=J0 HG _ _ (J0 RT);rw[<-J0 HR]at HG2;have HG2:=J4 HG2;clear HG HR;go_wp2_with (go_at_call 96;refine(J0 HG2).mono ?_;clear HG2 z0 z1 z2 z3 z4 zf;rintro e w4 ⟨v,rfl,q1,q2,q3⟩;obtain⟨pp,cp,rfl,-,-⟩:=q3.slice;have k4:w4.heap[w.heap.size]?=some tyO:=(q2.2 _ hzW (by omega)).trans (J0 N3);have m:=J8 k4;obtain⟨⟨z0,z1,z2,z3,z4⟩,zf⟩:=m;have Q1:=J4 q1;have Q2:=J4 (Kl.on (J0 KT) q2);have Q3:=J4 q3;have K5:=J4 k4;have hs4:=q2.size;clear q1 q2 q3 k4);obtain⟨Wf,hWf⟩:∃Wf:World,Wf=((((w4.setCell ⟨w.heap.size,0,none⟩ (.int .i64 7)).setCell ⟨w.heap.size,1,none⟩ (.string ⟨#[]⟩)).setCell ⟨w.heap.size,2,none⟩ (.slice none 0 0)).setCell ⟨w.heap.size,3,none⟩ (.slice none 0 0)).setCell ⟨w.heap.size,4,none⟩ (.slice pp R.1.length cp):=⟨_,rfl⟩
 rw[<-hWf];have hK:Kl b w.heap.size w w4:=Kl.on (.of_below (zb2 tyO) (Nat.le_of_lt hl)) (J0 Q2);have hWs:Wf.heap.size=w4.heap.size:=by rw[hWf];simp
 obtain⟨d1,d2,d3,d4⟩:=q_put (J0 K5) (J0 Q1) hK hl (Nat.le_refl _) Wf hWf;obtain⟨⟨y0,y1,y2,y3,y4⟩,-⟩:=J8 d1;exact bodyPost_ret (v:=Jc 7 ⟨#[]⟩ none none pp 0 0 0 0 R.1.length cp) (by simp[results,Tryz.results45,go_sem,y0,y1,y2,y3,y4]) rfl ⟨_,_,_,rfl,d2,d3,fun l hl V hV=>by
  have q3:=J0 Q3;rw[hl]at q3;have:=q3.some.types (V:=V) fun j j1 j2=>(hV j (by omega) (by omega)).trans (d4 j (by omega))
  rw[hl,List.length_map];rw[List.length_map]at this;exact partsV this⟩
end Go.Proofs.YtdamlfkieecnjaaGreatDoor
namespace Go.Proofs.YtdamlfkieecnjaaGreatDoor
open Lx
def Kp {α:Type} (p:RS->α×RS):Prop:=∀s r,s.2=some r->(p s).2.2=some r
section
variable {s:RS} {r:Int×Int} {en:Int}
theorem rRef_kp (h:s.2=some r) (a y:Int):(zbv s a y).2=some r:=by simp[zbv,h]
theorem zb9 (h:s.2=some r):(Jb en s).2=some r:=by unfold Jb;split <;> exact rRef_kp h _ _
theorem accS_kp (h:s.2=some r) (m:Bs):(zb4 s m).2=some r:=by unfold zb4;split <;> exact h
theorem zd6 (h:s.2=some r) (m:Bs):(Je en s m).2=some r:=by
 unfold Je;split
 ·exact h
 ·exact zb9 h
theorem kindS_kp (h:s.2=some r) (k:Int):(JX en s k).2=some r:=by
 unfold JX;split
 ·exact h
 ·exact zb9 h
theorem newS_kp (h:s.2=some r) (l:List Bs):(newS en s l).2=some r:=by
 unfold newS;split
 ·exact rRef_kp (kindS_kp h 1) _ _
 ·exact kindS_kp h 1
theorem openS_kp (h:s.2=some r):(zb5 en s).2=some r:=by
 unfold zb5;split
 ·exact zb9 h
 ·exact h
theorem zd8 (h:s.2=some r) (m:Bs):(Ju en s m).2=some r:=accS_kp (openS_kp h) m
theorem entS_kp (h:s.2=some r) (b:Tok->Bool) (k:Int):(zbq b en s k).2=some r:=by
 unfold zbq;split
 ·exact zb9 h
 ·split
  ·exact rRef_kp h _ _
  ·exact h
end
theorem zcb {α:Type} {thing:α->RS->α×RS} (h:∀a,Kp (thing a)):∀(f:Nat) (a:α),Kp (Jl thing f a)
 | 0,_=>fun _ _ e=>e
 | f+1,a=>fun s r e=>by
  rw[Jl];split
  ·exact zcb h f _ _ _ (h a _ _ e)
  ·exact e
theorem commasP_kp {α:Type} {en:Int} {m:Bs} {thing:α->RS->α×RS} (h:∀a,Kp (thing a)) (a:α):Kp (Jj en m thing a):=fun s r e=>by
 rw[Jj];split
 ·exact e
 ·exact zd6 (zcb h _ _ _ _ (h a _ _ e)) _
theorem recF_kp {α:Type} {en:Int} {p:RS->α×RS} (h:Kp p):∀(f:Nat) (es:List Bool) (ns:List Bs) (ps:List α),Kp (zb7 en p f es ns ps)
 | 0,_,_,_=>fun _ _ e=>e
 | f+1,es,ns,ps=>fun s r e=>by
  rw[zb7];split
  ·exact zd8 e _
  ·exact recF_kp h f _ _ _ _ _ (zd6 (h _ _ (newS_kp (accS_kp (zd8 e _) _) _)) _)
theorem ifaF_kp {α:Type} {en:Int} {p:RS->α×RS} (h:Kp p):∀(f:Nat) (ns:List Bs) (ps:List α),Kp (zbs en p f ns ps)
 | 0,_,_=>fun _ _ e=>e
 | f+1,ns,ps=>fun s r e=>by
  rw[zbs];split
  ·exact zd8 e _
  ·exact ifaF_kp h f _ _ _ _ (zd6 (h _ _ (newS_kp (zd8 e _) _)) _)
theorem onto_kp {α:Type} {p:RS->α×RS} (h:Kp p) (a:List α):Kp (zad p a):=fun s r e=>h s r e
theorem sigP_kp {α:Type} {en:Int} {p:RS->α×RS} (h:Kp p):Kp (sigP en p):=fun s r e=>h _ _ (commasP_kp (onto_kp h) _ s r e)
theorem sigA_kp {d:Nat} {en:Int} {p:RS->Ty d×RS} (h:Kp p):Kp (zco en p):=fun s r e=>by
 unfold zco;split
 ·exact sigP_kp h _ _ e
 ·exact zb9 e
theorem tyA_kp {d:Nat} {en:Int} {p g:RS->Ty d×RS} (h:Kp p) (k:Kp g) (t:Tok):Kp (tyA en p g t):=fun s r e=>by
 unfold tyA
 split;· exact e
 split;· exact e
 split;· exact e
 split;· exact e
 split;· exact h s r e
 split;· exact recF_kp h _ _ _ _ _ _ e
 split;· exact sigA_kp h s r e
 exact ifaF_kp k _ _ _ _ _ (zd6 e _)
theorem zeg (en:Int):∀d,Kp (pTS en d).1/\Kp (pTS en d).2
 | 0=>⟨fun s r e=>entS_kp e _ _,fun s r e=>entS_kp e _ _⟩
 | d+1=>⟨fun s r e=>by
   show(if za2 (J5 s)=true then tyA en (pTS en d).1 (pTS en d).2 (J5 s) (J7 s)else(zTy (d+1),Jb en s)).2.2=_
   split
   ·exact tyA_kp (zeg en d).1 (zeg en d).2 _ _ _ e
   ·exact zb9 e,sigA_kp (zeg en d).1⟩
theorem zb8 (en:Int) (s:RS):(Jb en s).2≠none:=by unfold Jb;split <;> simp[zbv]
theorem entS_no (b:Tok->Bool) (en:Int) (s:RS):(zbq b en s 65).2≠none:=by
 unfold zbq;split
 ·exact zb8 en s
 ·rw[if_pos (by decide)];simp[zbv]
theorem peek_sig {s:RS} (h:zdl (J5 s)=true):s.1≠[]:=fun e=>by
 simp[J5,e,zdl,isM,zcr]at h
theorem Takes.pTS (en:Int):∀d,Takes (pTS en d).1/\Takes (pTS en d).2
 | 0=>⟨⟨(zah en 0).1,fun s h=>absurd h (entS_no _ _ _),(zeg en 0).1⟩,⟨(zah en 0).2,fun s h=>absurd h (entS_no _ _ _),(zeg en 0).2⟩⟩
 | d+1=>⟨⟨(zah en (d+1)).1,fun s h=>by
   change (if za2 (J5 s)=true then tyA en (Proofs.YtdamlfkieecnjaaGreatDoor.pTS en d).1 (Proofs.YtdamlfkieecnjaaGreatDoor.pTS en d).2 (J5 s) (J7 s)else(zTy (d+1),Jb en s)).2.2=none at h;show(if za2 (J5 s)=true then tyA en (Proofs.YtdamlfkieecnjaaGreatDoor.pTS en d).1 (Proofs.YtdamlfkieecnjaaGreatDoor.pTS en d).2 (J5 s) (J7 s)else(zTy (d+1),Jb en s)).2.1.length<_;by_cases hb:za2 (J5 s)=true
   ·rw[if_pos hb];have h1:=tyA_len (en:=en) (zah en d).1 (zah en d).2 (J5 s) (J7 s);have h2:=Jt s;have h3:=List.length_pos_iff.2 (zac hb);omega
   ·rw[if_neg hb]at h;exact absurd h (zb8 en s),(zeg en (d+1)).1⟩,⟨(zah en (d+1)).2,fun s h=>by
   change (zco en (Proofs.YtdamlfkieecnjaaGreatDoor.pTS en d).1 s).2.2=none at h;show(zco en (Proofs.YtdamlfkieecnjaaGreatDoor.pTS en d).1 s).2.1.length<_;unfold zco at h ⊢;by_cases hb:zdl (J5 s)=true
   ·rw[if_pos hb];have h1:=sigP_len (en:=en) (zah en d).1 (J7 s);have h2:=Jt s;have h3:=List.length_pos_iff.2 (peek_sig hb);simp only;omega
   ·rw[if_neg hb]at h;exact absurd h (zb8 en s),(zeg en (d+1)).2⟩⟩
end Go.Proofs.YtdamlfkieecnjaaGreatDoor
namespace Go.Proofs.YtdamlfkieecnjaaGreatDoor
open Lx
def Nt (s:RS):Prop:=s.2≠none->s.1=[]
def Nts {α:Type} (p:RS->α×RS):Prop:=∀s,Nt s->Nt (p s).2
section
variable {s:RS} {en:Int}
theorem za4 (h:Nt s):Nt (J7 s):=fun e=>by simp[J7,h e]
theorem rRef_nt (a y:Int):Nt (zbv s a y):=fun _=>rfl
theorem zbd:Nt (Jb en s):=fun _=>by unfold Jb;split <;> rfl
theorem accS_nt (h:Nt s) (m:Bs):Nt (zb4 s m):=by
 unfold zb4;split
 ·exact za4 h
 ·exact h
theorem zbr (h:Nt s) (m:Bs):Nt (Je en s m):=by
 unfold Je;split
 ·exact za4 h
 ·exact zbd
theorem kindS_nt (h:Nt s) (k:Int):Nt (JX en s k):=by
 unfold JX;split
 ·exact za4 h
 ·exact zbd
theorem zet (h:Nt s) (l:List Bs):Nt (newS en s l):=by
 unfold newS;split
 ·exact rRef_nt _ _
 ·exact kindS_nt h 1
theorem openS_nt (h:Nt s):Nt (zb5 en s):=by
 unfold zb5;split
 ·exact zbd
 ·exact h
theorem zd0 (h:Nt s) (m:Bs):Nt (Ju en s m):=accS_nt (openS_nt h) m
theorem entS_nt (h:Nt s) (b:Tok->Bool) (k:Int):Nt (zbq b en s k):=by
 unfold zbq;split
 ·exact zbd
 ·split
  ·exact rRef_nt _ _
  ·exact h
end
theorem commasF_nt {α:Type} {thing:α->RS->α×RS} (h:∀a,Nts (thing a)):∀(f:Nat) (a:α),Nts (Jl thing f a)
 | 0,_=>fun _ e=>e
 | f+1,a=>fun s e=>by
  rw[Jl];split
  ·exact commasF_nt h f _ _ (h a _ (za4 e))
  ·exact e
theorem commasP_nt {α:Type} {en:Int} {m:Bs} {thing:α->RS->α×RS} (h:∀a,Nts (thing a)) (a:α):Nts (Jj en m thing a):=fun s e=>by
 rw[Jj];split
 ·exact za4 e
 ·exact zbr (commasF_nt h _ _ _ (h a _ e)) _
theorem recF_nt {α:Type} {en:Int} {p:RS->α×RS} (h:Nts p):∀(f:Nat) (es:List Bool) (ns:List Bs) (ps:List α),Nts (zb7 en p f es ns ps)
 | 0,_,_,_=>fun _ e=>e
 | f+1,es,ns,ps=>fun s e=>by
  rw[zb7];split
  ·exact zd0 e _
  ·exact recF_nt h f _ _ _ _ (zbr (h _ (zet (accS_nt (zd0 e _) _) _)) _)
theorem ifaF_nt {α:Type} {en:Int} {p:RS->α×RS} (h:Nts p):∀(f:Nat) (ns:List Bs) (ps:List α),Nts (zbs en p f ns ps)
 | 0,_,_=>fun _ e=>e
 | f+1,ns,ps=>fun s e=>by
  rw[zbs];split
  ·exact zd0 e _
  ·exact ifaF_nt h f _ _ _ (zbr (h _ (zet (zd0 e _) _)) _)
theorem onto_nt {α:Type} {p:RS->α×RS} (h:Nts p) (a:List α):Nts (zad p a):=fun s e=>h s e
theorem sigP_nt {α:Type} {en:Int} {p:RS->α×RS} (h:Nts p):Nts (sigP en p):=fun s e=>h _ (commasP_nt (onto_nt h) _ s e)
theorem sigA_nt {d:Nat} {en:Int} {p:RS->Ty d×RS} (h:Nts p):Nts (zco en p):=fun s e=>by
 unfold zco;split
 ·exact sigP_nt h _ (za4 e)
 ·exact zbd
theorem tyA_nt {d:Nat} {en:Int} {p g:RS->Ty d×RS} (h:Nts p) (k:Nts g) (t:Tok):Nts (tyA en p g t):=fun s e=>by
 unfold tyA
 split;· exact e
 split;· exact e
 split;· exact e
 split;· exact e
 split;· exact h s e
 split;· exact recF_nt h _ _ _ _ _ e
 split;· exact sigA_nt h s e
 exact ifaF_nt k _ _ _ _ (zbr e _)
theorem zf1 (en:Int):∀d,Nts (pTS en d).1/\Nts (pTS en d).2
 | 0=>⟨fun s e=>entS_nt e _ _,fun s e=>entS_nt e _ _⟩
 | d+1=>⟨fun s e=>by
   show Nt (if za2 (J5 s)=true then tyA en (pTS en d).1 (pTS en d).2 (J5 s) (J7 s)else(zTy (d+1),Jb en s)).2
   split
   ·exact tyA_nt (zf1 en d).1 (zf1 en d).2 _ _ (za4 e)
   ·exact zbd,sigA_nt (zf1 en d).1⟩
end Go.Proofs.YtdamlfkieecnjaaGreatDoor
namespace Go.Proofs.YtdamlfkieecnjaaGreatDoor
open Lx
theorem JU (en:Int) (r:Int×Int) (m:Bs):Je en ([],some r) m=([],some r):=by simp[Je,JB,isM,zcr,J5,Jb,zbv]
theorem ref_acc (r:Int×Int) (m:Bs):JB ([],some r) m=false:=by simp[JB,isM,zcr,J5]
theorem Takes.ref {α:Type} {p:RS->α×RS} (h:Takes p) (r:Int×Int):(p ([],some r)).2=([],some r):=
 Prod.ext (List.eq_nil_of_length_eq_zero (Nat.le_zero.1 (h.less ([],some r)))) (h.keeps _ _ rfl)
theorem za8 (en:Int) (s:RS):∃r,Jb en s=([],some r):=by unfold Jb;split <;> exact⟨_,rfl⟩
theorem acc_ne {s:RS} (h:JB s [41]=true):JB s [44]=false:=by
 simp only[JB,isM,Bool.and_eq_true,List.contains_cons,List.contains_nil,Bool.or_false,beq_iff_eq]at h;simp[JB,isM,h.2]
theorem Nt.eq {s:RS} {r:Int×Int} (h:Nt s) (e:s.2=some r):s=([],some r):=Prod.ext (h (by simp[e])) e
theorem goOn_ref (r:Int×Int) (m:Bs):goOn ([],some r) m=false:=rfl
theorem zcy {α:Type} (en:Int) (p:RS->α×RS) (r:Int×Int):∀(f:Nat) (l:List α),sigL en p f l ([],some r)=(l,([],some r))
 | 0,_=>rfl
 | f+1,l=>by rw[sigL,goOn_ref];rfl
theorem zer {α:Type} (p:α->RS->α×RS) (r:Int×Int):∀(f:Nat) (a:α),Jl p f a ([],some r)=(a,([],some r))
 | 0,_=>rfl
 | f+1,a=>by rw[Jl,ref_acc];rfl
theorem goOn_no {s:RS} {m:Bs} (h:JB s m=true):goOn s m=false:=by simp[goOn,h]
theorem zca {s:RS} {m:Bs} (h0:s.2=none) (h:¬JB s m=true):goOn s m=true:=by simp[goOn,h0,h]
theorem zc2 {α:Type} {p:RS->α×RS} (h:Kp p) {s:RS} (e:(p s).2.2=none):s.2=none:=by
 cases hs:s.2 with
 | none=>rfl
 | some r=>rw[h s r hs]at e;cases e
theorem zbx {en:Int} {s:RS} {m:Bs} (e:(Je en s m).2=none):s.2=none:=by
 cases hs:s.2 with
 | none=>rfl
 | some r=>rw[zd6 hs m]at e;cases e
theorem zdj {α:Type} {p:RS->α×RS} {s:RS} (e:(p s).2.2=none):(opt p s).1=some (p s).1:=if_pos e
theorem loopE {α:Type} {en:Int} {p:RS->α×RS} (hp:Takes p) (hn:Nts p):∀(f f':Nat) (l:List (Option α)) (l':List α) (s:RS),Nt s->mz s<f->s.1.length<f'->l.isEmpty=false ->
  Je en (sigL en (opt p) f l s).2 [41]=Je en (Jl (zad p) f' l' s).2 [41]/\((Je en (Jl (zad p) f' l' s).2 [41]).2=none->l=l'.map some->(sigL en (opt p) f l s).1=(Jl (zad p) f' l' s).1.map some)
 | 0,_,_,_,_=>fun _ h _ _=>by omega
 | f+1,0,_,_,_=>fun _ _ h _=>by omega
 | f+1,f'+1,l,l',s=>fun hs hf hf' hl=>by
  cases h0:s.2 with
  | some r=>
   obtain rfl:=hs.eq h0;rw[zcy,zer];exact⟨rfl,fun _ h=>h⟩
  | none=>
   rw[sigL,Jl];by_cases h41:JB s [41]=true
   ·rw[goOn_no h41,acc_ne h41];exact⟨rfl,fun _ h=>h⟩
   ·have hg:=zca h0 h41;rw[if_pos hg,hl];have hz:=hp.mz (en:=en) (l:=false) hg;by_cases h44:JB s [44]=true
    ·have e:Je en s [44]=J7 s:=if_pos h44;simp only[Bool.false_eq_true,if_false,e]at hz ⊢;rw[if_pos h44];have h3:=hp.less (J7 s);have h4:=Jt s;have h5:s.1≠[]:=fun e=>by simp[JB,isM,zcr,J5,e]at h44
     have h6:=List.length_pos_iff.2 h5;have ih:=loopE (en:=en) hp hn f f' (l++[(opt p (J7 s)).1]) (l'++[(p (J7 s)).1]) (p (J7 s)).2 (hn _ (za4 hs)) (by omega) (by omega) (by simp);refine⟨ih.1,fun hx hy=>ih.2 hx ?_⟩;have hq:(p (J7 s)).2.2=none:=zc2 (zcb (onto_kp hp.keeps) f' (l'++[(p (J7 s)).1])) (zbx hx);rw[hy,zdj hq];simp
    ·have e:Je en s [44]=Jb en s:=if_neg h44;have e2:Je en s [41]=Jb en s:=if_neg h41;obtain⟨r,hr⟩:=za8 en s;simp only[Bool.false_eq_true,if_false,e,hr];rw[if_neg h44,e2,hr];rw[show(opt p ([],some r)).2=([],some r)from hp.ref r,zcy];exact⟨JU en r [41],fun h=>by cases h⟩
theorem headE {α:Type} {en:Int} {p:RS->α×RS} (hp:Takes p) (hn:Nts p) (s:RS) (hs:Nt s) :
  Je en (sigL en (opt p) (mz s+1) [] s).2 [41]=(Jj en [41] (zad p) [] s).2/\((Jj en [41] (zad p) [] s).2.2=none->(sigL en (opt p) (mz s+1) [] s).1=(Jj en [41] (zad p) [] s).1.map some):=by
 cases h0:s.2 with
 | some r=>
  obtain rfl:=hs.eq h0;rw[zcy,Jj,ref_acc];simp only[Bool.false_eq_true,if_false];rw[show(zad p [] ([],some r)).2=([],some r)from hp.ref r,zer];refine⟨rfl,fun h=>?_⟩;rw[JU]at h
  cases h
 | none=>
  rw[sigL,Jj];by_cases h41:JB s [41]=true
  ·rw[goOn_no h41,if_pos h41];exact⟨if_pos h41,fun _=>rfl⟩
  ·have hg:=zca h0 h41;rw[if_pos hg,if_neg h41];have hz:=hp.mz (en:=en) (l:=true) hg;simp only[if_true]at hz;have ih:=loopE (en:=en) hp hn (mz s) ((p s).2.1.length+1) ([]++[(opt p s).1]) ([]++[(p s).1]) (p s).2 (hn _ hs) hz (by omega) rfl;refine⟨ih.1,fun hx=>ih.2 hx ?_⟩;have hq:(p s).2.2=none:=zc2 (zcb (onto_kp hp.keeps) ((p s).2.1.length+1) ([]++[(p s).1])) (zbx hx);rw[zdj hq]
   rfl
theorem sigE {d:Nat} {en:Int} {p:RS->Ty d×RS} (hp:Takes p) (hn:Nts p) (s:RS) (hs:Nt s) :
  (sigR en (opt p) s).2=(zco en p s).2/\((zco en p s).2.2=none->∃l,zco en p s=(zaf d 7 [] [] [] l,(zco en p s).2)/\(sigR en (opt p) s).1=l.map some):=by
 unfold zco sigR;by_cases hb:JB s [40]=true
 ·rw[show Je en s [40]=J7 s from if_pos hb,if_pos (show zdl (J5 s)=true from hb)];have ih:=headE (en:=en) hp hn (J7 s) (za4 hs);simp only[sigP,zad];rw[ih.1];refine⟨rfl,fun h=>⟨_,rfl,?_⟩⟩;have hc:(Jj en [41] (zad p) [] (J7 s)).2.2=none:=zc2 hp.keeps h;rw[ih.2 hc,zdj h];simp
 ·rw[show Je en s [40]=Jb en s from if_neg hb,if_neg (show ¬zdl (J5 s)=true from hb)];obtain⟨r,hr⟩:=za8 en s;rw[hr,zcy];simp only[JU];exact⟨hp.ref r,fun h=>by cases h⟩
end Go.Proofs.YtdamlfkieecnjaaGreatDoor
namespace Go.Proofs.YtdamlfkieecnjaaGreatDoor
open Go Go.RowKit Lx
theorem RqAt.nt {b:Nat} {en:Int} {ts:List Tok} {s:RS} {w:World} (h:RqAt b en ts s w):Nt s:=by
 obtain⟨i,y,a,-,rfl⟩:=h;intro e;unfold qs at e ⊢
 split at e
 ·exact absurd rfl e
 ·rw[if_neg (by assumption)]
def GivesAt (b:Nat) (en:Int) (ts:List Tok) (deep:Int) (d:Nat) (r:Ty (d+1)×RS) (w:World):Prop:=
 Calls Tryz.prog 45 #[rp b,.int .i64 deep] w fun e w'=>∃(K:Int) (S:ByteArray) (pn pe pp:Option Addr) (nn cn ne ce np cp:Nat),e=.returned (Jc K S pn pe pp nn cn ne ce np cp)/\RqAt b en ts r.2 w'/\Kx b w w'/\(r.2.2=none->∀V:World,(∀j,w.heap.size<=j->j<w'.heap.size->V.heap[j]?=w'.heap[j]?)->TyV V d (Jc K S pn pe pp nn cn ne ce np cp) r.1)
section
variable {b d:Nat} {en deep:Int} {ts:List Tok} {s:RS} {w:World}
theorem GivesAt.leaf {K:Int} {S:Bs} {s':RS} (h:Calls Tryz.prog 45 #[rp b,.int .i64 deep] w fun e w'=>e=.returned (Jc K ⟨S.toArray⟩ none none none 0 0 0 0 0 0)/\RqAt b en ts s' w'/\Kx b w w'):GivesAt b en ts deep d (zaf d K S [] [] [],s') w:=
 h.mono fun _ _ ⟨e,r1,r2⟩=>⟨K,_,none,none,none,0,0,0,0,0,0,e,r1,r2,fun _ V _=>leafV V d K S⟩
theorem at_no (hx:za2 (J5 s)=false) (h:RqAt b en ts s w):GivesAt b en ts deep d (zTy d,Jb en s) w:=
 (typed_no b en ts s deep hx w h).mono fun _ _ ⟨e,r1,r2⟩=>⟨0,⟨#[]⟩,none,none,none,0,0,0,0,0,0,e,r1,r2,fun _ V _=>zTyV V d⟩
theorem rFail_peek (hs:s.1≠[]):zbk en 15 s=zbv s (J5 s).1 15:=by
 obtain⟨l,r⟩:=s
 cases l with
 | nil=>exact absurd rfl hs
 | cons t l=>rfl
theorem at_deep (hd:64<deep) (h:RqAt b en ts s w):GivesAt b en ts deep d (zTy d,zbq za2 en s deep) w:=by
 by_cases hx:za2 (J5 s)=true
 ·have e:zbq za2 en s deep=zbk en 15 s:=by
   unfold zbq;rw[if_neg (by simp[hx]),if_pos hd,rFail_peek (zac hx)]
  rw[e];exact(typed_deep b en ts s deep hx hd w h).mono fun _ _ ⟨e,r1,r2⟩=>⟨0,⟨#[]⟩,none,none,none,0,0,0,0,0,0,e,r1,r2,fun _ V _=>zTyV V d⟩
 ·have hx':za2 (J5 s)=false:=by simpa using hx
  have e:zbq za2 en s deep=Jb en s:=if_pos hx';rw[e];exact at_no hx' h
theorem gives_zero:zcz b en ts 45 #[rp b,.int .i64 65] 0 (pTS en 0).1:=fun _ _ h=>at_deep (by decide) h
theorem mem_types {t:Tok} (h:za2 t=true) (hk:¬t.2.1=2):t.2.2.1∈zd5:=by
 simp only[za2,Bool.or_eq_true,beq_iff_eq]at h;rcases h with h|h
 ·exact absurd h hk
 ·simp only[isM,Bool.and_eq_true]at h;simpa using h.2
theorem at_most (hn:ts.length<=100000) (hd0:0<=deep) (hd:deep<=64) (hx:za2 (J5 s)=true) (Q G:RS->Ty (d+1)×RS) (hQT:Takes Q) (hQN:Nts Q) (hQ:zcz b en ts 45 #[rp b,.int .i64 (deep+1)] d Q)
  (hR:¬(J5 s).2.1=2->(J5 s).2.2.1=[123]->GivesAt b en ts deep (d+1) (tyA en Q G (J5 s) (J7 s)) w)
  (hI:¬(J5 s).2.1=2->(J5 s).2.2.1=[105,110,116,101,114,102,97,99,101]->GivesAt b en ts deep (d+1) (tyA en Q G (J5 s) (J7 s)) w)
  (h:RqAt b en ts s w):GivesAt b en ts deep (d+1) (tyA en Q G (J5 s) (J7 s)) w:=by
 by_cases hk:(J5 s).2.1=2
 ·unfold tyA;rw[if_pos hk];exact GivesAt.leaf (typed_name b en ts hn s deep hd hx hk w h)
 have hm:=mem_types hx hk;by_cases e6:(J5 s).2.2.1=[123]
 ·exact hR hk e6
 by_cases e8:(J5 s).2.2.1=[105,110,116,101,114,102,97,99,101]
 ·exact hI hk e8
 unfold tyA;rw[if_neg hk];by_cases e1:(J5 s).2.2.1=[105,110,116]
 ·rw[if_pos e1];exact GivesAt.leaf (S:=[]) (typed_int b en ts hn s deep hd hx hk e1 w h)
 rw[if_neg e1];by_cases e2:(J5 s).2.2.1=[98,111,111,108]
 ·rw[if_pos e2];exact GivesAt.leaf (S:=[]) (typed_bool b en ts hn s deep hd hx hk e2 w h)
 rw[if_neg e2];by_cases e3:(J5 s).2.2.1=[116,101,120,116]
 ·rw[if_pos e3];exact GivesAt.leaf (S:=[]) (typed_text b en ts hn s deep hd hx hk e3 w h)
 rw[if_neg e3];by_cases e5:(J5 s).2.2.1=[42]
 ·rw[if_pos e5];exact typed_ptr b en ts hn s deep hd0 hd hx hk e5 d Q hQ w h
 rw[if_neg e5,if_neg e6];have e7:(J5 s).2.2.1=[102,110]:=by
  simp only[zd5,List.mem_cons,List.not_mem_nil,or_false]at hm;rcases hm with h|h|h|h|h|h|h <;> first|exact h|exact absurd h (by assumption)
 rw[if_pos e7];obtain⟨E1,E2⟩:=sigE (en:=en) hQT hQN (J7 s) (za4 h.nt);refine(typed_fn b en ts hn s deep hd0 hd hx hk e7 d Q hQT hQ w h).mono ?_;rintro e w' ⟨pp,np,cp,rfl,r1,r2,r3⟩;refine⟨_,_,_,_,_,_,_,_,_,_,_,rfl,E1 ▸ r1,r2,fun hz V hV=>?_⟩;obtain⟨l,hl,hl2⟩:=E2 hz;rw[hl];exact r3 l hl2 V hV
end
end Go.Proofs.YtdamlfkieecnjaaGreatDoor
namespace Go.Proofs.YtdamlfkieecnjaaGreatDoor
open Lx
def recL {α:Type} (en:Int) (pt:RS->α×RS):Nat->List Bool->List Bs->List α->RS->(List Bool×List Bs×List α)×RS
 | 0,es,ns,ps,s=>((es,ns,ps),s)
 | f+1,es,ns,ps,s=>if goOn s [125]=true then
   let s2:=zb4 s [101,109,98,101,100]
   let q:=pt (newS en s2 ns)
   recL en pt f (es++[JB s [101,109,98,101,100]]) (ns++[JH s2 ns]) (ps++[q.1]) (Je en q.2 [59])else((es,ns,ps),s)
theorem recL_ref {α:Type} (en:Int) (p:RS->α×RS) (r:Int×Int):∀(f:Nat) (es:List Bool) (ns:List Bs) (ps:List α),recL en p f es ns ps ([],some r)=((es,ns,ps),([],some r))
 | 0,_,_,_=>rfl
 | f+1,es,ns,ps=>by rw[recL,goOn_ref];rfl
theorem zda (en:Int) (r:Int×Int) (m:Bs):zab en ([],some r) m=true/\Ju en ([],some r) m=([],some r):=by
 have e:zb5 en ([],some r)=([],some r):=by simp[zb5,Jb,zbv]
 have e2:zb4 ([],some r) m=([],some r):=if_neg (by simp[ref_acc]);refine⟨?_,?_⟩
 ·simp[zab,e,e2]
 ·rw[Ju,e,e2]
theorem recF_ref {α:Type} (en:Int) (p:RS->α×RS) (r:Int×Int):∀(f:Nat) (es:List Bool) (ns:List Bs) (ps:List α),zb7 en p f es ns ps ([],some r)=((es,ns,ps),([],some r))
 | 0,_,_,_=>rfl
 | f+1,es,ns,ps=>by rw[zb7,if_pos (zda en r [125]).1,(zda en r [125]).2]
theorem zaw {en:Int} {s:RS} {m:Bs} (h:s.1≠[]):(JB s m=true->zab en s m=true/\Ju en s m=J7 s)/\(¬JB s m=true->zab en s m=false/\Ju en s m=s):=by
 have e:zb5 en s=s:=if_neg h;refine⟨fun ha=>?_,fun ha=>?_⟩
 ·exact⟨by simp[zab,e,ha],by rw[Ju,e];exact if_pos ha⟩
 ·have e2:zb4 s m=s:=if_neg ha;exact⟨by simp[zab,e,e2,ha,h],by rw[Ju,e,e2]⟩
theorem zc5 {en:Int} {s:RS} {m:Bs} (h:s.1=[]):zab en s m=true/\Ju en s m=Jb en s:=by
 have e:zb5 en s=Jb en s:=if_pos h;obtain⟨r,hr⟩:=za8 en s;have e2:zb4 (Jb en s) m=Jb en s:=by rw[hr];exact if_neg (by simp[ref_acc])
 refine⟨?_,by rw[Ju,e,e2]⟩;rw[zab,e,e2,hr];simp
theorem new_none {en:Int} {s:RS} (ns:List Bs) (h:s.1=[]):newS en s ns=Jb en s:=by
 have hp:(J5 s).2.1=0:=by simp[J5,h]
 have e:JX en s 1=Jb en s:=if_neg (by rw[hp];decide);obtain⟨r,hr⟩:=za8 en s;unfold newS;rw[e]
 split
 ·rw[hr];rfl
 ·rfl
theorem acc_none {s:RS} {m:Bs} (h:s.1=[]):JB s m=false:=by simp[JB,isM,zcr,J5,h]
theorem new_open {en:Int} {s:RS} {ns:List Bs} (h:(newS en s ns).2=none):JH s ns=(JF s 1).2.2.1/\(newS en s ns).1.length<s.1.length:=by
 unfold newS at h ⊢
 split at h
 ·simp[zbv]at h
 ·rename_i hc;rw[if_neg hc];unfold JX at h ⊢
  split at h
  ·rename_i hk;rw[if_pos hk];have hs:s.1≠[]:=fun e=>by simp[J5,e]at hk
   have:=List.length_pos_iff.2 hs;refine⟨?_,by rw[Jt];omega⟩;unfold JH;rw[if_neg];rintro⟨-,h2⟩;rw[JF,if_pos hk]at hc;exact hc h2
  ·exact absurd h (zb8 en s)
theorem recE {α:Type} {en:Int} {p:RS->α×RS} (hp:Takes p) (hn:Nts p):∀(f f':Nat) (es:List Bool) (ns:List Bs) (ps:List (Option α)) (ps':List α) (s:RS),Nt s->mz s<f->s.1.length<f' ->
  Je en (recL en (opt p) f es ns ps s).2 [125]=(zb7 en p f' es ns ps' s).2/\((zb7 en p f' es ns ps' s).2.2=none->ps=ps'.map some->(recL en (opt p) f es ns ps s).1=((zb7 en p f' es ns ps' s).1.1,(zb7 en p f' es ns ps' s).1.2.1,(zb7 en p f' es ns ps' s).1.2.2.map some))
 | 0,_,_,_,_,_,_=>fun _ h _=>by omega
 | f+1,0,_,_,_,_,_=>fun _ _ h=>by omega
 | f+1,f'+1,es,ns,ps,ps',s=>fun hs hf hf'=>by
  cases h0:s.2 with
  | some r=>
   obtain rfl:=hs.eq h0;rw[recL_ref,recF_ref];exact⟨JU en r [125],fun h=>by cases h⟩
  | none=>
   rw[recL,zb7];by_cases he:s.1=[]
   ·have hg:=zca h0 (show ¬JB s [125]=true by simp[acc_none he]);rw[if_pos hg,if_pos (zc5 he).1,(zc5 he).2];have e1:zb4 s [101,109,98,101,100]=s:=if_neg (by simp[acc_none he]);obtain⟨r,hr⟩:=za8 en s;simp only[e1,new_none ns he,hr];rw[show(opt p ([],some r)).2=([],some r)from hp.ref r,JU,recL_ref];exact⟨JU en r [125],fun h=>by cases h⟩
   ·by_cases hc:JB s [125]=true
    ·rw[goOn_no hc,if_pos ((zaw he).1 hc).1,((zaw he).1 hc).2];exact⟨if_pos hc,fun _ h=>by rw[<-h];rfl⟩
    ·have hg:=zca h0 hc;obtain⟨k1,k2⟩:=(zaw (en:=en) he).2 hc;rw[if_pos hg,k1,k2];simp only[Bool.false_eq_true,if_false];obtain⟨s2,hs2⟩:∃s2,s2=zb4 s [101,109,98,101,100]:=⟨_,rfl⟩
     have n2:Nt s2:=hs2 ▸ accS_nt hs _;have l2:s2.1.length<=s.1.length:=hs2 ▸ zdk _ _;rw[<-hs2];obtain⟨s3,hs3⟩:∃s3,s3=newS en s2 ns:=⟨_,rfl⟩
     have n3:Nt s3:=hs3 ▸ zet n2 _;rw[<-hs3];rw[show(opt p s3).2=(p s3).2 from rfl];obtain⟨s4,hs4⟩:∃s4,s4=Je en (p s3).2 [59]:=⟨_,rfl⟩
     have n4:Nt s4:=hs4 ▸ zbr (hn _ n3) _;have l4:s4.1.length<=(p s3).2.1.length:=hs4 ▸ JK _ _ _;rw[<-hs4]
     cases h4:s4.2 with
     | some r=>
      obtain rfl:=n4.eq h4;rw[recL_ref,recF_ref];exact⟨JU en r [125],fun h=>by cases h⟩
     | none=>
      have hq:(p s3).2.2=none:=zbx (hs4 ▸ h4);have h3:s3.2=none:=zc2 hp.keeps hq;obtain⟨m1,m2⟩:=new_open (hs3 ▸ h3);have m3:=hp.takes _ hq;rw[<-hs3]at m2;rw[m1];have z1:mz s=s.1.length+1:=if_pos h0;have z2:mz s4=s4.1.length+1:=if_pos h4;have ih:=recE (en:=en) hp hn f f' (es++[JB s [101,109,98,101,100]]) (ns++[(JF s2 1).2.2.1]) (ps++[(opt p s3).1]) (ps'++[(p s3).1]) s4 n4 (by omega) (by omega);refine⟨ih.1,fun hx hy=>ih.2 hx ?_⟩;rw[hy,zdj hq];simp
end Go.Proofs.YtdamlfkieecnjaaGreatDoor
namespace Go.Proofs.YtdamlfkieecnjaaGreatDoor
open Lx
def ifaL {α:Type} (en:Int) (pt:RS->α×RS):Nat->List Bs->List α->RS->(List Bs×List α)×RS
 | 0,ns,ps,s=>((ns,ps),s)
 | f+1,ns,ps,s=>if goOn s [125]=true then
   let q:=pt (newS en s ns)
   ifaL en pt f (ns++[JH s ns]) (ps++[q.1]) (Je en q.2 [59])else((ns,ps),s)
theorem ifaL_ref {α:Type} (en:Int) (p:RS->α×RS) (r:Int×Int):∀(f:Nat) (ns:List Bs) (ps:List α),ifaL en p f ns ps ([],some r)=((ns,ps),([],some r))
 | 0,_,_=>rfl
 | f+1,ns,ps=>by rw[ifaL,goOn_ref];rfl
theorem ifaF_ref {α:Type} (en:Int) (p:RS->α×RS) (r:Int×Int):∀(f:Nat) (ns:List Bs) (ps:List α),zbs en p f ns ps ([],some r)=((ns,ps),([],some r))
 | 0,_,_=>rfl
 | f+1,ns,ps=>by rw[zbs,if_pos (zda en r [125]).1,(zda en r [125]).2]
theorem ifaE {α:Type} {en:Int} {p:RS->α×RS} (hp:Takes p) (hn:Nts p):∀(f f':Nat) (ns:List Bs) (ps:List (Option α)) (ps':List α) (s:RS),Nt s->mz s<f->s.1.length<f' ->
  Je en (ifaL en (opt p) f ns ps s).2 [125]=(zbs en p f' ns ps' s).2/\((zbs en p f' ns ps' s).2.2=none->ps=ps'.map some->(ifaL en (opt p) f ns ps s).1=((zbs en p f' ns ps' s).1.1,(zbs en p f' ns ps' s).1.2.map some))
 | 0,_,_,_,_,_=>fun _ h _=>by omega
 | f+1,0,_,_,_,_=>fun _ _ h=>by omega
 | f+1,f'+1,ns,ps,ps',s=>fun hs hf hf'=>by
  cases h0:s.2 with
  | some r=>
   obtain rfl:=hs.eq h0;rw[ifaL_ref,ifaF_ref];exact⟨JU en r [125],fun h=>by cases h⟩
  | none=>
   rw[ifaL,zbs];by_cases he:s.1=[]
   ·have hg:=zca h0 (show ¬JB s [125]=true by simp[acc_none he]);rw[if_pos hg,if_pos (zc5 he).1,(zc5 he).2];obtain⟨r,hr⟩:=za8 en s;simp only[new_none ns he,hr];rw[show(opt p ([],some r)).2=([],some r)from hp.ref r,JU,ifaL_ref];exact⟨JU en r [125],fun h=>by cases h⟩
   ·by_cases hc:JB s [125]=true
    ·rw[goOn_no hc,if_pos ((zaw he).1 hc).1,((zaw he).1 hc).2];exact⟨if_pos hc,fun _ h=>by rw[<-h];rfl⟩
    ·have hg:=zca h0 hc;obtain⟨k1,k2⟩:=(zaw (en:=en) he).2 hc;rw[if_pos hg,k1,k2];simp only[Bool.false_eq_true,if_false];obtain⟨s3,hs3⟩:∃s3,s3=newS en s ns:=⟨_,rfl⟩
     have n3:Nt s3:=hs3 ▸ zet hs _;rw[<-hs3];rw[show(opt p s3).2=(p s3).2 from rfl];obtain⟨s4,hs4⟩:∃s4,s4=Je en (p s3).2 [59]:=⟨_,rfl⟩
     have n4:Nt s4:=hs4 ▸ zbr (hn _ n3) _;have l4:s4.1.length<=(p s3).2.1.length:=hs4 ▸ JK _ _ _;rw[<-hs4]
     cases h4:s4.2 with
     | some r=>
      obtain rfl:=n4.eq h4;rw[ifaL_ref,ifaF_ref];exact⟨JU en r [125],fun h=>by cases h⟩
     | none=>
      have hq:(p s3).2.2=none:=zbx (hs4 ▸ h4);have h3:s3.2=none:=zc2 hp.keeps hq;obtain⟨m1,m2⟩:=new_open (hs3 ▸ h3);have m3:=hp.takes _ hq;rw[<-hs3]at m2;rw[m1];have z1:mz s=s.1.length+1:=if_pos h0;have z2:mz s4=s4.1.length+1:=if_pos h4;have ih:=ifaE (en:=en) hp hn f f' (ns++[(JF s 1).2.2.1]) (ps++[(opt p s3).1]) (ps'++[(p s3).1]) s4 n4 (by omega) (by omega);refine⟨ih.1,fun hx hy=>ih.2 hx ?_⟩;rw[hy,zdj hq];simp
def meS (en deep:Int) (s:RS):RS:=
 let s2:=if s.2=none/\JB s [40]=false then Jb en s else s
 if 64<deep then zbk en 15 s2 else s2
theorem ze3 {α:Type} {en:Int} {p:RS->α×RS} (hp:Takes p) (r:Int×Int):(sigR en (opt p) ([],some r)).2=([],some r):=by
 unfold sigR;rw[JU,zcy];simp only[JU];exact hp.ref r
theorem rFail_ref (en k:Int) (r:Int×Int):zbk en k ([],some r)=([],some r):=rfl
theorem meE {d:Nat} {en deep:Int} {p:RS->Ty d×RS} (hp:Takes p) (hn:Nts p) (hd:deep<=64) (s:RS) (hs:Nt s) :
  (sigR en (opt p) (meS en deep s)).2=(zco en p s).2/\((zco en p s).2.2=none->∃l,zco en p s=(zaf d 7 [] [] [] l,(zco en p s).2)/\(sigR en (opt p) (meS en deep s)).1=l.map some):=by
 unfold meS;simp only[if_neg (show ¬64<deep by omega)];by_cases hc:s.2=none/\JB s [40]=false
 ·rw[if_pos hc];have e:zco en p s=(zTy d,Jb en s):=by
   unfold zco;rw[if_neg (show ¬zdl (J5 s)=true by rw[show zdl (J5 s)=false from hc.2];decide)]
  obtain⟨r,hr⟩:=za8 en s;rw[e,hr];exact⟨ze3 hp r,fun h=>by cases h⟩
 ·rw[if_neg hc];exact sigE hp hn s hs
theorem meE_deep {α:Type} {en deep:Int} {p:RS->α×RS} (hp:Takes p) (hd:64<deep) (s:RS) (hs:Nt s) :
  (sigR en (opt p) (meS en deep s)).2=zbq zdl en s deep:=by
 unfold meS zbq;simp only[if_pos hd]
 cases h0:s.2 with
 | some r=>
  obtain rfl:=hs.eq h0;have e:zdl (J5 (([],some r):RS))=false:=rfl;simp[e,rFail_ref,ze3 hp,Jb,zbv]
 | none=>
  by_cases hc:JB s [40]=true
  ·have hc2:zdl (J5 s)=true:=hc;have hsn:=peek_sig hc2;simp only[hc,hc2,rFail_peek hsn,Bool.true_eq_false,and_false,if_false];exact ze3 hp _
  ·have hc1:JB s [40]=false:=by simpa using hc
   have hc2:zdl (J5 s)=false:=hc1;obtain⟨r,hr⟩:=za8 en s;simp only[hc1,hc2,and_self,if_true,hr,rFail_ref];exact ze3 hp r
end Go.Proofs.YtdamlfkieecnjaaGreatDoor
namespace Go.Proofs.YtdamlfkieecnjaaGreatDoor
open Go Go.RowKit Lx
def GT (b:Nat) (en:Int) (ts:List Tok) (d:Nat):Prop:=zcz b en ts 45 #[rp b,.int .i64 (65-(d:Int))] d (pTS en d).1
def RecGives (b:Nat) (en:Int) (ts:List Tok):Prop:=∀(d:Nat) (s:RS) (w:World),d<=64->za2 (J5 s)=true->¬(J5 s).2.1=2->(J5 s).2.2.1=[123]->GT b en ts d->RqAt b en ts s w->GivesAt b en ts (64-(d:Int)) (d+1) (tyA en (pTS en d).1 (pTS en d).2 (J5 s) (J7 s)) w
def IfaGives (b:Nat) (en:Int) (ts:List Tok):Prop:=∀(d:Nat) (s:RS) (w:World),d<=64->za2 (J5 s)=true->¬(J5 s).2.1=2->(J5 s).2.2.1=[105,110,116,101,114,102,97,99,101]->(∀e,d=e+1->GT b en ts e)->RqAt b en ts s w->GivesAt b en ts (64-(d:Int)) (d+1) (tyA en (pTS en d).1 (pTS en d).2 (J5 s) (J7 s)) w
theorem zeu {b:Nat} {en:Int} {ts:List Tok} (hn:ts.length<=100000) (hR:RecGives b en ts) (hI:IfaGives b en ts):∀n d,d<=n->d<=65->GT b en ts d
 | _,0=>fun _ _=>gives_zero
 | 0,d+1=>fun h _=>by omega
 | n+1,d+1=>fun h h65=>fun s w hw=>by
  have ih:∀e,e<=n->e<=65->GT b en ts e:=zeu hn hR hI n
  have hd:=ih d (by omega) (by omega);have e:(65:Int)-((d+1:Nat):Int)=64-(d:Int):=by omega
  rw[e];show GivesAt b en ts (64-(d:Int)) (d+1) (if za2 (J5 s)=true then tyA en (pTS en d).1 (pTS en d).2 (J5 s) (J7 s)else(zTy (d+1),Jb en s)) w;by_cases hx:za2 (J5 s)=true
  ·rw[if_pos hx];refine at_most hn (by omega) (by omega) hx (pTS en d).1 (pTS en d).2 (Takes.pTS en d).1 (zf1 en d).1 ?_ (fun hk e6=>hR d s w (by omega) hx hk e6 hd hw) (fun hk e8=>hI d s w (by omega) hx hk e8 (fun e he=>ih e (by omega) (by omega)) hw) hw;rw[show(64:Int)-(d:Int)+1=65-(d:Int) by omega];exact hd
  ·rw[if_neg hx];exact at_no (by simpa using hx) hw
end Go.Proofs.YtdamlfkieecnjaaGreatDoor
namespace Go.Proofs.YtdamlfkieecnjaaGreatDoor
open Go Go.RowKit Lx
theorem qs_some {ts:List Tok} {i:Nat} {y a a0 y0:Int} (h:(qs ts i y a).2=some (a0,y0)):a=a0/\y=y0/\y≠0:=by
 unfold qs at h
 split at h
 ·cases h
 ·rename_i hy;simp only[Option.some.injEq,Prod.mk.injEq]at h;exact⟨h.1,h.2,hy⟩
theorem end_none {en:Int} {s1:RS} (h:(if s1.1=[]then s1 else Jb en s1).2=none):s1.2=none:=by
 split at h
 ·exact h
 ·exact absurd h (zb8 en s1)
theorem TypeQ_yes (src:ByteArray) (ts:List Tok) (s0 s1:RS) (t1:Ty 65)
  (HB:∀w,Calls Tryz.prog 44 #[.string src] w fun e w'=>∃b,e=.returned (rp b)/\w.heap.size<=b/\RqAt b (src.size:Int) ts s0 w'/\Below w.heap.size w w')
  (HT:∀b w,RqAt b (src.size:Int) ts s0 w->Calls Tryz.prog 45 #[rp b,.int .i64 1] w fun e w'=>∃(K:Int) (S:ByteArray) (pn pe pp:Option Addr) (nn cn ne ce np cp:Nat),e=.returned (Jc K S pn pe pp nn cn ne ce np cp)/\RqAt b (src.size:Int) ts s1 w'/\Kx b w w'/\(s1.2=none->∀V:World,(∀j,w.heap.size<=j->j<w'.heap.size->V.heap[j]?=w'.heap[j]?)->TyV V 64 (Jc K S pn pe pp nn cn ne ce np cp) t1))
  (HE:∀b s,Rdq b (src.size:Int) ts 46 #[rp b] s (if s.1=[]then s else Jb (src.size:Int) s) (.tuple #[]))
  (ho:(if s1.1=[]then s1 else Jb (src.size:Int) s1).2=none) (w:World) :
  Calls Tryz.prog 11 #[.string src] w fun e w'=>Below w.heap.size w w'/\∃(K:Int) (S:ByteArray) (pn pe pp:Option Addr) (nn cn ne ce np cp:Nat),e=.returned (.tuple #[Jc K S pn pe pp nn cn ne ce np cp,.int .i64 0,.int .i64 0])/\∀V:World,(∀j,w.heap.size<=j->j<w'.heap.size->V.heap[j]?=w'.heap[j]?)->TyV V 64 (Jc K S pn pe pp nn cn ne ce np cp) t1:=by
 have hb:=J4 HB;have ht:=J4 HT;have he:=J4 HE;have HO:=J4 ho;clear HB HT HE ho;go_enter Tryz.func11,Tryz.ntmps11;go_wp2_with (first|(go_at_call 44;go_loud (refine(J0 hb _).mono ?_;clear hb;rintro e w2 ⟨b,rfl,r0,r1,r2⟩;have k2:w2.heap[w.heap.size]?=some tyO:=(r2.block _ (by simp)).trans (J6 w tyO);have hl:w.heap.size<b:=(by simp at r0;omega);have hz2:=(Array.getElem?_eq_some_iff.1 k2).1;have R1:=J4 r1;have R2:=J4 r2;have K2:=J4 k2;clear r1 r2 k2 r0))|(go_at_call 45;refine(J0 ht _ _ (J0 R1)).mono ?_;clear ht;rintro e w3 ⟨K,S,pn,pe,pp,nn,cn,ne,ce,np,cp,rfl,q1,q2,q3⟩;have Q1:=J4 q1;have Q2:=J4 q2;have Q3:=J4 q3;clear q1 q2 q3)|(go_at_call 46;go_loud (have hb3:=(J0 Q1).lt;have hb2:=(J0 R1).lt;refine(J0 he _ _ _ ((J0 Q1).alloc _)).mono ?_;clear he;rintro e w4 ⟨rfl,x1,x2⟩;have ho:=J0 HO;obtain⟨i,y,a,hq,hsq⟩:=x1;have hy0:y=0:=qs_none.1 (by rw[<-hsq];exact ho);subst hy0;obtain⟨p,c,h1,-,-⟩:=hq;obtain⟨⟨c0,c1,c2,c3,c4⟩,cf⟩:=zc0 h1;have X2:=J4 (Kl.on ((J0 Q2).alloc (Nat.le_of_lt hb2) (J0 Q2).size _) x2);have X3:=J4 x2;have t4:=(x2.2 w3.heap.size (by simp) (by omega)).trans (J6 w3 _);obtain⟨⟨u0,u1,u2,u3,u4⟩,uf⟩:=J8 t4;have k4:w4.heap[w.heap.size]?=some tyO:=((J0 X2).2 _ hz2 (by omega)).trans (J0 K2);obtain⟨⟨z0,z1,z2,z3,z4⟩,zf⟩:=J8 k4;have K4:=J4 k4;clear x2 k4 h1 t4)));obtain⟨Wf,hWf⟩:∃Wf:World,Wf=(((((w4.setCell ⟨w.heap.size,0,none⟩ (.int .i64 K)).setCell ⟨w.heap.size,1,none⟩ (.string S)).setCell ⟨w.heap.size,2,none⟩ (.slice pn nn cn)).setCell ⟨w.heap.size,3,none⟩ (.slice pe ne ce)).setCell ⟨w.heap.size,4,none⟩ (.slice pp np cp)):=⟨_,rfl⟩
 rw[<-hWf];obtain⟨d1,d2,d3⟩:=zc7 (J0 K4) Wf hWf;obtain⟨⟨v0,v1,v2,v3,v4⟩,-⟩:=J8 d1;refine bodyPost_ret (v:=.tuple #[Jc K S pn pe pp nn cn ne ce np cp,.int .i64 0,.int .i64 0]) (by simp[results,Tryz.results11,go_sem,v0,v1,v2,v3,v4]) rfl ⟨?_,⟨_,_,_,_,_,_,_,_,_,_,_,rfl,fun V hV=>J0 Q3 (end_none (J0 HO)) V fun j j1 j2=>?_⟩⟩
 ·exact((zb2 tyO).trans ((J0 R2).mono (by simp))).trans (((J0 X2).below (Nat.le_of_lt hl)).trans (d3.mono (Nat.le_refl _)))
 ·have hsz:=(J0 X2).size;have hws:Wf.heap.size=w4.heap.size:=by rw[hWf];simp
  have hs3:=(J0 X3).size;simp at hs3;have q3:=(J0 Q2).size;exact(hV j (by omega) (by omega)).trans ((d2 j (by omega)).trans (((J0 X3).2 j (by simp;omega) (by omega)).trans (J9 _ _ j2)))
end Go.Proofs.YtdamlfkieecnjaaGreatDoor
namespace Go.Proofs.YtdamlfkieecnjaaGreatDoor
open Go Go.RowKit Lx
theorem TypeQ_no (src:ByteArray) (ts:List Tok) (s0 s1:RS) (t1:Ty 65) (a0 y0:Int)
  (HB:∀w,Calls Tryz.prog 44 #[.string src] w fun e w'=>∃b,e=.returned (rp b)/\w.heap.size<=b/\RqAt b (src.size:Int) ts s0 w'/\Below w.heap.size w w')
  (HT:∀b w,RqAt b (src.size:Int) ts s0 w->Calls Tryz.prog 45 #[rp b,.int .i64 1] w fun e w'=>∃(K:Int) (S:ByteArray) (pn pe pp:Option Addr) (nn cn ne ce np cp:Nat),e=.returned (Jc K S pn pe pp nn cn ne ce np cp)/\RqAt b (src.size:Int) ts s1 w'/\Kx b w w'/\(s1.2=none->∀V:World,(∀j,w.heap.size<=j->j<w'.heap.size->V.heap[j]?=w'.heap[j]?)->TyV V 64 (Jc K S pn pe pp nn cn ne ce np cp) t1))
  (HE:∀b s,Rdq b (src.size:Int) ts 46 #[rp b] s (if s.1=[]then s else Jb (src.size:Int) s) (.tuple #[]))
  (ho:(if s1.1=[]then s1 else Jb (src.size:Int) s1).2=some (a0,y0)) (w:World) :
  Calls Tryz.prog 11 #[.string src] w fun e w'=>Below w.heap.size w w'/\e=.returned (.tuple #[tyZ,.int .i64 a0,.int .i64 y0])/\y0≠0:=by
 have hb:=J4 HB;have ht:=J4 HT;have he:=J4 HE;have HO:=J4 ho;clear HB HT HE ho;go_enter Tryz.func11,Tryz.ntmps11;go_upto_region 5 with(first|(go_at_call 44;go_loud (refine(J0 hb _).mono ?_;clear hb;rintro e w2 ⟨b,rfl,r0,r1,r2⟩;have k2:w2.heap[w.heap.size]?=some tyO:=(r2.block _ (by simp)).trans (J6 w tyO);have hl:w.heap.size<b:=(by simp at r0;omega);have hz2:=(Array.getElem?_eq_some_iff.1 k2).1;have R1:=J4 r1;have R2:=J4 r2;have K2:=J4 k2;clear r1 r2 k2 r0))|(go_at_call 45;refine(J0 ht _ _ (J0 R1)).mono ?_;clear ht;rintro e w3 ⟨K,S,pn,pe,pp,nn,cn,ne,ce,np,cp,rfl,q1,q2,q3⟩;have Q1:=J4 q1;have Q2:=J4 q2;have Q3:=J4 q3;clear q1 q2 q3)|(go_at_call 46;go_loud (have hb3:=(J0 Q1).lt;have hb2:=(J0 R1).lt;refine(J0 he _ _ _ ((J0 Q1).alloc _)).mono ?_;clear he;rintro e w4 ⟨rfl,x1,x2⟩;have ho:=J0 HO;obtain⟨i,y,a,hq,hsq⟩:=x1;obtain⟨rfl,rfl,hyn⟩:=qs_some (by rw[<-hsq];exact ho);have HYN:=J4 hyn;have hyb:(y==0)=false:=(by simpa using hyn);have hyd:decide (y=0)=false:=(by simpa using hyn);obtain⟨p,c,h1,-,-⟩:=hq;obtain⟨⟨c0,c1,c2,c3,c4⟩,cf⟩:=zc0 h1;have X2:=J4 (Kl.on ((J0 Q2).alloc (Nat.le_of_lt hb2) (J0 Q2).size _) x2);have X3:=J4 x2;have t4:=(x2.2 w3.heap.size (by simp) (by omega)).trans (J6 w3 _);obtain⟨⟨u0,u1,u2,u3,u4⟩,uf⟩:=J8 t4;have k4:w4.heap[w.heap.size]?=some tyO:=((J0 X2).2 _ hz2 (by omega)).trans (J0 K2);obtain⟨⟨z0,z1,z2,z3,z4⟩,zf⟩:=J8 k4;have K4:=J4 k4;clear x2 k4 h1 t4)))
 clear u0 u1 u2 u3 u4 uf hyn;have s0:∀m,(w4.drewN m).setCell ⟨w.heap.size,0,none⟩ (.int .i64 0)=w4.drewN m:=fun m=>JO (W:=w4.drewN m) (J0 K4) rfl
 have s1:∀m,(w4.drewN m).setCell ⟨w.heap.size,1,none⟩ (.string ⟨#[]⟩)=w4.drewN m:=fun m=>JO (W:=w4.drewN m) (J0 K4) rfl
 have s2:∀m,(w4.drewN m).setCell ⟨w.heap.size,2,none⟩ (.slice none 0 0)=w4.drewN m:=fun m=>JO (W:=w4.drewN m) (J0 K4) rfl
 have s3:∀m,(w4.drewN m).setCell ⟨w.heap.size,3,none⟩ (.slice none 0 0)=w4.drewN m:=fun m=>JO (W:=w4.drewN m) (J0 K4) rfl
 have s4:∀m,(w4.drewN m).setCell ⟨w.heap.size,4,none⟩ (.slice none 0 0)=w4.drewN m:=fun m=>JO (W:=w4.drewN m) (J0 K4) rfl
 go_quiet (fail);have v0:(w4.drewN nq).cell? ⟨w.heap.size,0,none⟩=some (.int .i64 0):=z0;have v1:(w4.drewN nq).cell? ⟨w.heap.size,1,none⟩=some (.string ⟨#[]⟩):=z1;have v2:(w4.drewN nq).cell? ⟨w.heap.size,2,none⟩=some (.slice none 0 0):=z2;have v3:(w4.drewN nq).cell? ⟨w.heap.size,3,none⟩=some (.slice none 0 0):=z3;have v4:(w4.drewN nq).cell? ⟨w.heap.size,4,none⟩=some (.slice none 0 0):=z4;go_wp2;refine bodyPost_ret (v:=.tuple #[tyZ,.int .i64 a,.int .i64 y]) (by simp[results,Tryz.results11,go_sem,v0,v1,v2,v3,v4]) rfl ⟨below_drewN ?_ nq,rfl,J0 HYN⟩;exact((zb2 tyO).trans ((J0 R2).mono (by simp))).trans ((J0 X2).below (Nat.le_of_lt hl))
end Go.Proofs.YtdamlfkieecnjaaGreatDoor
namespace Go.Proofs.YtdamlfkieecnjaaGreatDoor
open Go Go.RowKit Lx
theorem Row.growq {α:Type} {T tb Ts:TypeId} {n:Nat} {Q:World->List Value->α->Prop} {M:Nat->Prop} {z:Value} {by1 b lo bx i:Nat} {en:Int} {ts:List Tok} {s:RS} {wr w1:World} {zs:Array Value} {v:Value} {xs:List α} {x:α} {u:List Value} (ht:Tryz.prog.underlying Ts=Option.some (.slice T)) (hi0:(Tryz.prog.info? T).map (fun i=>(i.zero,i.size,i.bytes))=Option.some (Option.some z,n,by1)) (hz:z.cells.size=n) (hn0:0<n) (hb1:by1<=1000)
  (hbl:b<lo) (hlb:lo<=bx) (hx:wr.heap[bx]?=Option.some (.cells zs tb)) (hv:zs[i]?=Option.some v) (h:Row T n Q (bx+1) M wr v xs) (hM:∀k,M k->k<wr.heap.size) (hvM:∀k,v.ownBlock=Option.some k->M k) (hb:Kx b wr w1) (hR:RqAt b en ts s w1)
  (hu:∀V:World,(∀j,wr.heap.size<=j->j<w1.heap.size->V.heap[j]?=w1.heap[j]?)->Q V u x) (h1:∀c∈u,c.oneCell'=true) (hun:u.length=n) (hl:xs.length<=1000000) :
  w1.cell? ⟨bx,i,none⟩=Option.some v/\(w1.alloc (.cells u.toArray T)).cell? ⟨bx,i,none⟩=Option.some v/\∃(g cap:Nat) (W4:World),(Builtin.append_ #[Ts,Ts] Ts #[v,.slice (Option.some ⟨w1.heap.size,0,none⟩) 1 1]).run Tryz.prog (w1.alloc (.cells u.toArray T))=.ok (.slice (Option.some ⟨g,0,none⟩) (xs.length+1) cap) W4 /\
   W4.cell? ⟨bx,i,none⟩=Option.some v/\W4.frozen? ⟨bx,i,none⟩=false /\
   ∀W5,W5=W4.setCell ⟨bx,i,none⟩ (.slice (Option.some ⟨g,0,none⟩) (xs.length+1) cap) ->
   W5.heap[bx]?=Option.some (.cells (zs.setIfInBounds i (.slice (Option.some ⟨g,0,none⟩) (xs.length+1) cap)) tb)/\(v.ownBlock=Option.some g∨w1.heap.size<g)/\g<W5.heap.size /\
   (∀M':Nat->Prop,(∀k,M' k->k<w1.heap.size+1->M k)->Row T n Q (bx+1) M' W5 (.slice (Option.some ⟨g,0,none⟩) (xs.length+1) cap) (xs++[x])) /\
   wr.heap.size<=W5.heap.size/\(∀j,j<wr.heap.size->j≠b->j≠bx->Option.some j≠v.ownBlock->W5.heap[j]?=wr.heap[j]?)/\Kl b lo wr W5/\RqAt b en ts s W5:=by
 have hbx:bx<wr.heap.size:=(Array.getElem?_eq_some_iff.1 hx).1;have hs1:=hb.size;have hx1:w1.heap[bx]?=Option.some (.cells zs tb):=(hb.2 _ hbx (by omega)).trans hx;obtain⟨g,cap,W4,E,hrow,hs4,hk4,hgg,hb4⟩:=h.append (b:=b) ht hi0 hz hn0 hb1 (by omega) hM hvM hb (by omega) (zb2 (.cells u.toArray T)) (J6 w1 _) hu h1 hun hl;have hsz:(w1.alloc (.cells u.toArray T)).heap.size=w1.heap.size+1:=by simp
 have hown:∀k,v.ownBlock=Option.some k->bx+1<=k/\k<wr.heap.size:=h.lt
 rw[hsz]at hs4 hk4 hgg;have hk4':∀j,j<w1.heap.size->Option.some j≠v.ownBlock->W4.heap[j]?=w1.heap[j]?:=fun j hj hne=>(hk4 j (by omega) hne).trans (J9 _ _ hj)
 have hx4:W4.heap[bx]?=Option.some (.cells zs tb):=(hk4' _ (by omega) (fun ej=>by have:=(hown _ ej.symm).1;omega)).trans hx1;refine⟨by rw[Lib.cell_of_heap hx1];exact hv,by rw[Lib.cell_of_heap ((J9 w1 _ (by omega)).trans hx1)];exact hv,g,cap,W4,E,by rw[Lib.cell_of_heap hx4];exact hv,Lib.frozen_of_heap hx4 i,?_⟩;rintro W5 rfl;have hs5:(W4.setCell ⟨bx,i,none⟩ (.slice (Option.some ⟨g,0,none⟩) (xs.length+1) cap)).heap.size=W4.heap.size:=by simp
 have hne5:∀j,j≠bx->(W4.setCell ⟨bx,i,none⟩ (.slice (Option.some ⟨g,0,none⟩) (xs.length+1) cap)).heap[j]?=W4.heap[j]?:=fun j hj=>Below.heap_setCell _ _ _ _ hj
 have hlt:∀k,(Value.slice (Option.some ⟨g,0,none⟩) (xs.length+1) cap).ownBlock=Option.some k->k<W4.heap.size:=fun k hk=>((hrow (fun _=>False) (fun _ h=>h.elim)).lt k hk).2
 refine⟨Ja hx4 _,?_,by rw[hs5];exact hlt g rfl,fun M' hM'=>(hrow M' (fun k h1 h2=>hM' k h1 (by omega))).keep (by omega) (fun k k1 _ _=>hne5 k (by omega)) (fun k hk=>hne5 k (by have:=((hrow M' (fun k h1 h2=>hM' k h1 (by omega))).lt k hk).1;omega)) (fun _ _ h=>h),by omega,fun j h1 h2 h3 h4=>(hne5 j h3).trans ((hk4' j (by omega) h4).trans (hb.2 j h1 h2)),?_,?_⟩
 ·rcases hgg with e|e
  ·exact .inl e
  ·exact .inr (by omega)
 ·refine⟨((hb.1.trans (((zb2 _).mono (by omega)).trans (hb4.mono (by omega)))).setCell (p:=⟨bx,i,none⟩) (by show b<=bx;omega) _),fun j h1 h2=>(hne5 j (by omega)).trans ((hk4' j (by omega) (fun ej=>by have:=(hown _ ej.symm).1;omega)).trans (hb.2 j (by omega) h2))⟩
 ·exact hR.on ((((zb2 _).mono (by omega)).trans (hb4.mono (by omega))).setCell (p:=⟨bx,i,none⟩) (by show b<=bx;omega) _) ((hne5 b (by omega)).trans (hk4' b hR.lt (fun ej=>by have:=(hown _ ej.symm).1;omega)))
def TqAt (K:Int) (d bx:Nat) (W:World) (ns:List Bs) (es:List Bool) (ps:List (Option (Ty (d+1)))) (vN vE vP:Value):Prop:=
 W.heap[bx]?=some (.cells #[.int .i64 K,.string ⟨#[]⟩,vN,vE,vP] 27)/\Row 9 1 SQ (bx+1) (Mu [vN,vE,vP]) W vN ns/\Row 4 1 BQ (bx+1) (Mu [vN,vE,vP]) W vE es/\Row 27 5 (OQ d) (bx+1) (Mu [vN,vE,vP]) W vP ps
section
variable {K:Int} {d bx b:Nat} {W W':World} {ns:List Bs} {es:List Bool} {ps:List (Option (Ty (d+1)))} {vN vE vP:Value}
theorem TqAt.lt (h:TqAt K d bx W ns es ps vN vE vP):∀k,Mu [vN,vE,vP] k->k<W.heap.size:=fun k hk=>by
 rcases zas hk with e|e|e
 ·exact(h.2.1.lt k e).2
 ·exact(h.2.2.1.lt k e).2
 ·exact(h.2.2.2.lt k e).2
theorem TqAt.still (h:TqAt K d bx W ns es ps vN vE vP) (hx:Kx b W W') (hb:b<bx):TqAt K d bx W' ns es ps vN vE vP:=by
 obtain⟨h1,h2,h3,h4⟩:=h;have hlt:=(Array.getElem?_eq_some_iff.1 h1).1;have hk:∀k,bx+1<=k->k<W.heap.size->W'.heap[k]?=W.heap[k]?:=fun k k1 k2=>hx.2 k k2 (by omega)
 exact⟨(hx.2 _ hlt (by omega)).trans h1,h2.still hx.size hk,h3.still hx.size hk,h4.still hx.size hk⟩
theorem TqAt.slices (h:TqAt K d bx W ns es ps vN vE vP):∃pn cn pe ce pp cp,vN=.slice pn ns.length cn/\vE=.slice pe es.length ce/\vP=.slice pp ps.length cp:=by
 obtain⟨pn,cn,e1,_⟩:=h.2.1.slice;obtain⟨pe,ce,e2,_⟩:=h.2.2.1.slice;obtain⟨pp,cp,e3,_⟩:=h.2.2.2.slice;exact⟨pn,cn,pe,ce,pp,cp,e1,e2,e3⟩
end
section
variable {K en:Int} {d bx b lo:Nat} {ts:List Tok} {s:RS} {wr w1:World} {ns:List Bs} {es:List Bool} {ps:List (Option (Ty (d+1)))} {vN vE vP:Value}
theorem TqAt.name {n:Bs} (h:TqAt K d bx wr ns es ps vN vE vP) (hbl:b<lo) (hlb:lo<=bx) (hx:Kx b wr w1) (hR:RqAt b en ts s w1) (hl:ns.length<=1000000) :
  Grown 22 9 bx 2 vN [.string ⟨n.toArray⟩] (ns.length+1) w1 fun v' W5=>TqAt K d bx W5 (ns++[n]) es ps v' vE vP/\Kl b lo wr W5/\RqAt b en ts s W5:=by
 obtain⟨e1,e2,g,cap,W4,E,e3,e4,HW⟩:=h.2.1.growq (v:=vN) (b:=b) (lo:=lo) (x:=n) (i:=2) (u:=[.string ⟨n.toArray⟩]) Tryz.underlying22 inf_str rfl (by decide) (by decide) hbl hlb h.1 rfl h.lt (fun k=>mu1) hx hR (fun V _=>rfl) (by simp[Value.oneCell']) rfl hl;refine⟨e1,e2,g,cap,W4,E,e3,e4,?_⟩;obtain⟨f1,f2,f3,f4,f5,f6,f7,f8⟩:=HW _ rfl;have hM1:∀k,Mu [.slice (some ⟨g,0,none⟩) (ns.length+1) cap,vE,vP] k->k<w1.heap.size+1->Mu [vN,vE,vP] k:=fun k hm hk=>by
  rcases zas hm with e|e|e
  ·obtain rfl:g=k:=by simpa[Value.ownBlock]using e
   rcases f2 with f|f
   ·exact mu1 f
   ·omega
  ·exact mu2 e
  ·exact mu3 e
 have hM:∀k,k<wr.heap.size->Mu [.slice (some ⟨g,0,none⟩) (ns.length+1) cap,vE,vP] k->Mu [vN,vE,vP] k:=fun k hk hm=>hM1 k hm (by have:=hx.size;omega)
 exact⟨⟨f1,f4 _ hM1,JE (by omega) h.2.1 h.2.2.1 (by decide) (fun k=>mu1) f5 f6 hM,JE (by omega) h.2.1 h.2.2.2 (by decide) (fun k=>mu1) f5 f6 hM⟩,f7,f8⟩
theorem TqAt.embed {e:Bool} (h:TqAt K d bx wr ns es ps vN vE vP) (hbl:b<lo) (hlb:lo<=bx) (hx:Kx b wr w1) (hR:RqAt b en ts s w1) (hl:es.length<=1000000) :
  Grown 24 4 bx 3 vE [.bool e] (es.length+1) w1 fun v' W5=>TqAt K d bx W5 ns (es++[e]) ps vN v' vP/\Kl b lo wr W5/\RqAt b en ts s W5:=by
 obtain⟨e1,e2,g,cap,W4,E,e3,e4,HW⟩:=h.2.2.1.growq (v:=vE) (b:=b) (lo:=lo) (x:=e) (i:=3) (u:=[.bool e]) Tryz.underlying24 inf_bool rfl (by decide) (by decide) hbl hlb h.1 rfl h.lt (fun k=>mu2) hx hR (fun V _=>rfl) (by simp[Value.oneCell']) rfl hl;refine⟨e1,e2,g,cap,W4,E,e3,e4,?_⟩;obtain⟨f1,f2,f3,f4,f5,f6,f7,f8⟩:=HW _ rfl;have hM1:∀k,Mu [vN,.slice (some ⟨g,0,none⟩) (es.length+1) cap,vP] k->k<w1.heap.size+1->Mu [vN,vE,vP] k:=fun k hm hk=>by
  rcases zas hm with e|e|e
  ·exact mu1 e
  ·obtain rfl:g=k:=by simpa[Value.ownBlock]using e
   rcases f2 with f|f
   ·exact mu2 f
   ·omega
  ·exact mu3 e
 have hM:∀k,k<wr.heap.size->Mu [vN,.slice (some ⟨g,0,none⟩) (es.length+1) cap,vP] k->Mu [vN,vE,vP] k:=fun k hk hm=>hM1 k hm (by have:=hx.size;omega)
 exact⟨⟨f1,JE (by omega) h.2.2.1 h.2.1 (by decide) (fun k=>mu2) f5 f6 hM,f4 _ hM1,JE (by omega) h.2.2.1 h.2.2.2 (by decide) (fun k=>mu2) f5 f6 hM⟩,f7,f8⟩
theorem TqAt.part {t:Option (Ty (d+1))} {u:List Value} (h:TqAt K d bx wr ns es ps vN vE vP) (hbl:b<lo) (hlb:lo<=bx) (hx:Kx b wr w1) (hR:RqAt b en ts s w1) (hu:∀V:World,(∀j,wr.heap.size<=j->j<w1.heap.size->V.heap[j]?=w1.heap[j]?)->OQ d V u t) (h1:∀c∈u,c.oneCell'=true) (hun:u.length=5) (hl:ps.length<=1000000) :
  Grown 25 27 bx 4 vP u (ps.length+1) w1 fun v' W5=>TqAt K d bx W5 ns es (ps++[t]) vN vE v'/\Kl b lo wr W5/\RqAt b en ts s W5:=by
 obtain⟨e1,e2,g,cap,W4,E,e3,e4,HW⟩:=h.2.2.2.growq (v:=vP) (b:=b) (lo:=lo) (x:=t) (i:=4) (u:=u) Tryz.underlying25 inf_ty rfl (by decide) (by decide) hbl hlb h.1 rfl h.lt (fun k=>mu3) hx hR hu h1 hun hl;refine⟨e1,e2,g,cap,W4,E,e3,e4,?_⟩;obtain⟨f1,f2,f3,f4,f5,f6,f7,f8⟩:=HW _ rfl;have hM1:∀k,Mu [vN,vE,.slice (some ⟨g,0,none⟩) (ps.length+1) cap] k->k<w1.heap.size+1->Mu [vN,vE,vP] k:=fun k hm hk=>by
  rcases zas hm with e|e|e
  ·exact mu1 e
  ·exact mu2 e
  ·obtain rfl:g=k:=by simpa[Value.ownBlock]using e
   rcases f2 with f|f
   ·exact mu3 f
   ·omega
 have hM:∀k,k<wr.heap.size->Mu [vN,vE,.slice (some ⟨g,0,none⟩) (ps.length+1) cap] k->Mu [vN,vE,vP] k:=fun k hk hm=>hM1 k hm (by have:=hx.size;omega)
 exact⟨⟨f1,JE (by omega) h.2.2.2 h.2.1 (by decide) (fun k=>mu3) f5 f6 hM,JE (by omega) h.2.2.2 h.2.2.1 (by decide) (fun k=>mu3) f5 f6 hM,f4 _ hM1⟩,f7,f8⟩
end
section
variable {K en:Int} {d bx b lo:Nat} {ts:List Tok} {s:RS} {wr:World} {ns:List Bs} {es:List Bool} {ps:List (Option (Ty (d+1)))} {vN vE vP:Value}
theorem tq_name (hn:ts.length<=100000) (h:TqAt K d bx wr ns es ps vN vE vP) (hbl:b<lo) (hlb:lo<=bx) (hR:RqAt b en ts s wr) (hl:ns.length<=1000000):Calls Tryz.prog 98 #[rp b,vN] wr.drew fun e w1=>e=.returned (.string ⟨(JH s ns).toArray⟩) /\
  Grown 22 9 bx 2 vN [.string ⟨(JH s ns).toArray⟩] (ns.length+1) w1 fun v' W5=>TqAt K d bx W5 (ns++[JH s ns]) es ps v' vE vP/\Kl b lo wr W5/\RqAt b en ts (newS en s ns) W5:=
 (fresh_q b en ts hn s vN ns hl _ hR.drew fun V hV=>(h.still hV.undrew (by omega)).2.1.strs fun _ _ _=>rfl).mono fun _ _ ⟨h1,h2,h3⟩=>⟨h1,h.name hbl hlb h3.undrew h2 hl⟩
theorem opt_oq {p:RS->Ty (d+1)×RS} {V:World} {u:List Value} (h:(p s).2.2=none->TyV V d (.agg u.toArray) (p s).1):OQ d V u (opt p s).1:=by
 unfold opt OQ
 split
 ·rename_i t ht;by_cases hq:(p s).2.2=none
  ·rw[if_pos hq]at ht;obtain rfl:=Option.some.inj ht;exact h hq
  ·rw[if_neg hq]at ht;cases ht
 ·trivial
theorem tq_part {F:FuncId} {args:Array Value} {p:RS->Ty (d+1)×RS} (hP:zcz b en ts F args d p) (h:TqAt K d bx wr ns es ps vN vE vP) (hbl:b<lo) (hlb:lo<=bx) (hR:RqAt b en ts s wr) (hl:ps.length<=1000000):Calls Tryz.prog F args wr.drew fun e w1=>∃(K2:Int) (S:ByteArray) (pn pe pp:Option Addr) (nn cn ne ce np cp:Nat),e=.returned (Jc K2 S pn pe pp nn cn ne ce np cp) /\
  Grown 25 27 bx 4 vP [.int .i64 K2,.string S,.slice pn nn cn,.slice pe ne ce,.slice pp np cp] (ps.length+1) w1 fun v' W5=>TqAt K d bx W5 ns es (ps++[(opt p s).1]) vN vE v'/\Kl b lo wr W5/\RqAt b en ts (p s).2 W5:=
 (hP s _ hR.drew).mono fun _ _ ⟨K2,S,pn,pe,pp,nn,cn,ne,ce,np,cp,h1,h2,h3,h4⟩=>⟨K2,S,pn,pe,pp,nn,cn,ne,ce,np,cp,h1,h.part hbl hlb h3.undrew h2 (fun V hV=>opt_oq fun hq=>h4 hq V fun j j1 j2=>hV j j1 j2) (one5 _ _ _ _ _ _ _ _ _ _ _) rfl hl⟩
end
theorem zee (args:Array Value) (w:World):Sem.run Tryz.prog (callFunc 98 args) w=.ok (.enter 98 args) w:=by kernel_rfl
theorem typed_enter (args:Array Value) (w:World):Sem.run Tryz.prog (callFunc 45 args) w=.ok (.enter 45 args) w:=by kernel_rfl
theorem zeq (args:Array Value) (w:World):Sem.run Tryz.prog (callFunc 96 args) w=.ok (.enter 96 args) w:=by kernel_rfl
def TqS (K:Int) (b:Nat) (en:Int) (ts:List Tok) (d:Nat) (w:World) (bx:Nat) (s:RS) (W:World) (ns:List Bs) (es:List Bool) (ps:List (Option (Ty (d+1)))) (vN vE vP:Value):Prop:=
 TqAt K d bx W ns es ps vN vE vP/\W.heap[w.heap.size]?=some tyO/\RqAt b en ts s W/\Kl b w.heap.size w W/\w.heap.size<bx
section
variable {K en:Int} {d b bx:Nat} {ts:List Tok} {s s':RS} {w W W5:World} {ns ns':List Bs} {es es':List Bool} {ps ps':List (Option (Ty (d+1)))} {vN vE vP vN' vE' vP':Value}
theorem TqS.on (h:TqS K b en ts d w bx s W ns es ps vN vE vP) (hb:b<w.heap.size) (h5:TqAt K d bx W5 ns' es' ps' vN' vE' vP'/\Kl b bx W W5/\RqAt b en ts s' W5):TqS K b en ts d w bx s' W5 ns' es' ps' vN' vE' vP':=
 ⟨h5.1,(h5.2.1.2 _ (by have:=h.2.2.2.2;omega) (by omega)).trans h.2.1,h5.2.2,h.2.2.2.1.trans (h5.2.1.mono (by have:=h.2.2.2.2;omega)),h.2.2.2.2⟩
theorem TqS.call (h:TqS K b en ts d w bx s W ns es ps vN vE vP) (hb:b<w.heap.size) (hx:Kx b W W5) (hR:RqAt b en ts s' W5):TqS K b en ts d w bx s' W5 ns es ps vN vE vP:=
 ⟨h.1.still hx (by have:=h.2.2.2.2;omega),(hx.2 _ (Array.getElem?_eq_some_iff.1 h.2.1).1 (by omega)).trans h.2.1,hR,h.2.2.2.1.trans (hx.mono h.2.2.2.1.size),h.2.2.2.2⟩
theorem TqS.slices (h:TqS K b en ts d w bx s W ns es ps vN vE vP):∃pn cn pe ce pp cp,vN=.slice pn ns.length cn/\vE=.slice pe es.length ce/\vP=.slice pp ps.length cp:=h.1.slices
theorem TqS.first (hb:b<w.heap.size) (h0:W.heap[w.heap.size]?=some tyO) (hk:Kl b w.heap.size w W) (h:RqAt b en ts s W):TqS K b en ts d w W.heap.size s (W.alloc (.cells #[.int .i64 K,.string ⟨#[]⟩,.slice none 0 0,.slice none 0 0,.slice none 0 0] 27)) [] [] [] (.slice none 0 0) (.slice none 0 0) (.slice none 0 0):=
 have hlt:=(Array.getElem?_eq_some_iff.1 h0).1
 ⟨⟨zar _ _ (by simp),Row.nil _ _ _,Row.nil _ _ _,Row.nil _ _ _⟩,(J9 _ _ hlt).trans h0,h.alloc _,hk.alloc (Nat.le_of_lt hb) (Nat.le_of_lt hlt) _,hlt⟩
theorem TqS.done (h:TqS K b en ts d w bx s W ns es ps vN vE vP) (hb:b<w.heap.size) (W6:World) (e:W6=((((W.setCell ⟨w.heap.size,0,none⟩ (.int .i64 K)).setCell ⟨w.heap.size,1,none⟩ (.string ⟨#[]⟩)).setCell ⟨w.heap.size,2,none⟩ vN).setCell ⟨w.heap.size,3,none⟩ vE).setCell ⟨w.heap.size,4,none⟩ vP) :
  W6.heap[w.heap.size]?=some (.cells #[.int .i64 K,.string ⟨#[]⟩,vN,vE,vP] 27)/\RqAt b en ts s W6/\Kx b w W6/\∀l:List (Ty (d+1)),ps=l.map some->∀V:World,(∀j,w.heap.size<=j->j<W6.heap.size->V.heap[j]?=W6.heap[j]?)->TyV V (d+1) (.agg #[.int .i64 K,.string ⟨#[]⟩,vN,vE,vP]) (zaf (d+1) K [] ns es l):=by
 obtain⟨h1,h2,h3,h4,h5⟩:=h;obtain⟨k5,r1,r2,hk⟩:=q_put h2 h3 h4 hb (Nat.le_refl _) W6 e;have hs:W6.heap.size=W.heap.size:=by rw[e];simp
 refine⟨k5,r1,r2,fun l hl V hV=>?_⟩;subst hl;have hV2:∀j,bx+1<=j->j<W.heap.size->V.heap[j]?=W.heap[j]?:=fun j j1 j2=>(hV j (by omega) (by omega)).trans (hk j (by omega))
 have q1:=h1.2.1.strs hV2;have q2:=h1.2.2.1.bools hV2;have q3:=h1.2.2.2.some.types hV2;obtain⟨pn,cn,pe,ce,pp,cp,rfl,rfl,rfl⟩:=h1.slices;rw[List.length_map]at q3 ⊢;exact⟨pn,pe,pp,cn,ce,cp,rfl,q1,q2,q3⟩
end
end Go.Proofs.YtdamlfkieecnjaaGreatDoor
namespace Go.Proofs.YtdamlfkieecnjaaGreatDoor
open Go Go.RowKit Lx
theorem recL_step {α:Type} {en:Int} {p:RS->α×RS} {f:Nat} {es:List Bool} {ns:List Bs} {ps:List α} {s:RS} (hg:goOn s [125]=true):recL en p (f+1) es ns ps s=recL en p f (es++[JB s [101,109,98,101,100]]) (ns++[JH (zb4 s [101,109,98,101,100]) ns]) (ps++[(p (newS en (zb4 s [101,109,98,101,100]) ns)).1]) (Je en (p (newS en (zb4 s [101,109,98,101,100]) ns)).2 [59]):=by
 rw[recL,if_pos hg]
theorem recL_stop {α:Type} {en:Int} {p:RS->α×RS} {f:Nat} {es:List Bool} {ns:List Bs} {ps:List α} {s:RS} (hg:¬goOn s [125]=true):recL en p (f+1) es ns ps s=((es,ns,ps),s):=by
 rw[recL,if_neg hg]
theorem mz_less {α:Type} {en:Int} {p:RS->α×RS} (hp:Takes p) {s s5:RS} {m:Bs} (h0:s.2=none) (hl:s5.1.length<=s.1.length):mz (Je en (p s5).2 m)<mz s:=by
 have h1:=JK en (p s5).2 m;unfold mz;rw[if_pos h0]
 split
 ·rename_i hq;have h2:=hp.takes _ (zbx hq);omega
 ·omega
theorem mz_le (s:RS):mz s<=s.1.length+1:=by unfold mz;split <;> omega
theorem typed_rec (b:Nat) (en:Int) (ts:List Tok) (hn:ts.length<=100000) (s:RS) (deep:Int) (hd0:0<=deep) (hd:deep<=64) (hx:za2 (J5 s)=true) (hk:¬(J5 s).2.1=2) (hS:(J5 s).2.2.1=[123]) (d:Nat) (Q:RS->Ty (d+1)×RS) (hQT:Takes Q) (hQ:zcz b en ts 45 #[rp b,.int .i64 (deep+1)] d Q) (w:World) (h:RqAt b en ts s w) (R:(List Bool×List Bs×List (Option (Ty (d+1))))×RS) (hR:R=recL en (opt Q) (mz (J7 s)+1) [] [] [] (J7 s)) :
  Calls Tryz.prog 45 #[rp b,.int .i64 deep] w fun e w'=>∃(pn pe pp:Option Addr) (nn cn ne ce np cp:Nat),e=.returned (Jc 6 ⟨#[]⟩ pn pe pp nn cn ne ce np cp)/\RqAt b en ts (Je en R.2 [125]) w'/\Kx b w w'/\∀l:List (Ty (d+1)),R.1.2.2=l.map some->∀V:World,(∀j,w.heap.size<=j->j<w'.heap.size->V.heap[j]?=w'.heap[j]?)->TyV V (d+1) (Jc 6 ⟨#[]⟩ pn pe pp nn cn ne ce np cp) (zaf (d+1) 6 [] R.1.2.1 R.1.1 l):=by
 have HR:=J4 hR;have HP:=J4 hQ;have HT:=J4 hQT;have HL0:Hid ((J7 s).1.length<=100000):=by
  obtain⟨i,y,a,-,e⟩:=h;have h1:=Jt s;have h2:s.1.length<=ts.length:=by rw[e];unfold qs;split <;> simp
  show _<=_;omega
 clear hQ hQT hR;have hl:=h.lt;have hso:=zac hx;have BG:=J4 (zaj b en ts s (w.alloc tyO) (h.alloc tyO));have KD:=J4 (qHead b en ts s w false (by simpa using hk));rw[hx]at BG;clear hx h hk;go_enter Tryz.func45,Tryz.ntmps45;go_upto_region 9 with(first|(go_at_call 93;refine(J0 BG).mono ?_;clear BG;rintro e w2 ⟨rfl,r1,r2⟩;have R1:=J4 r1;have R2:=J4 r2;clear r1 r2)|(go_at_call 94;refine(J0 KD _ (J0 R1) (J0 R2)).mono ?_;clear KD;rintro e w3 ⟨rfl,r1,r2⟩;have R3:=J4 r1;have R4:=J4 r2;clear r1 r2))
 obtain⟨i,y,a,hq,rfl⟩:=J0 R3;obtain⟨rfl,hi⟩:=zaz hso;obtain⟨t,ht⟩:∃t,ts[i]?=some t:=⟨_,List.getElem?_eq_getElem hi⟩
 obtain⟨p,c,h1,h2,h3⟩:=id hq;obtain⟨g,o,rfl,t0,t1,t2,t3⟩:=h2.tok ht;obtain⟨⟨c0,c1,c2,c3,c4⟩,cf⟩:=zc0 h1;have hSt:t.2.2.1=[123]:=by rw[<-hS];simp[qs,zdy ht,J5]
 rw[hSt]at t2;have HQ:=J4 hq;have hi2:(i:Int)<(ts.length:Int):=by omega
 have hw:IntKind.i64.wrap ((i:Int)+1)=(i:Int)+1:=by rw[IntKind.wrap_i64];omega
 clear hq h1 h2 hS hSt ht t0 t1 t3 hso;go_quiet (fail);obtain⟨W2,hW2⟩:∃W2:World,W2=w3.drewN nq:=⟨_,rfl⟩
 have q1:QAt b en ts i 0 a W2:=(J0 HQ).kept (by rw[hW2];exact(Kl.refl _ _ _).drewN nq) (by rw[hW2];rfl);have K2:Kx b (w.alloc tyO) W2:=by rw[hW2];exact(J0 R4).drewN nq
 obtain⟨p2,c',e1,e2,e3⟩:=id q1;have k3:W2.heap[w.heap.size]?=some tyO:=(K2.2 _ (by simp) (by omega)).trans (J6 w tyO);have Q1:=J4 q1;have QK:=J4 K2;have K3:=J4 k3;rw[<-hW2];clear c0 c1 c2 c3 c4 cf t2 hW2 HQ R3 R4 q1 K2;obtain⟨⟨c0,c1,c2,c3,c4⟩,cf⟩:=zc0 e1;clear e1 e2;go_upto_region 11 with fail
 obtain⟨W3,hW3⟩:∃W3:World,W3=W2.setCell ⟨b,2,none⟩ (.int .i64 ((i:Int)+1)):=⟨_,rfl⟩
 have n3:W3.heap[w.heap.size]?=some tyO:=by rw[hW3];exact(Below.heap_setCell _ _ _ _ (by show w.heap.size≠b;omega)).trans (J0 K3)
 have RT:Hid (RqAt b en ts (J7 (qs ts i 0 a)) W3):=by
  have:=(J0 Q1).next hi;rwa[show((i+1:Nat):Int)=(i:Int)+1 by omega,<-hW3]at this
 have KT:Hid (Kx b (w.alloc tyO) W3):=by rw[hW3];exact(J0 QK).set _
 rw[<-hW3];have N3:=J4 n3;obtain⟨⟨z0,z1,z2,z3,z4⟩,zf⟩:=J8 n3;clear hW3 c0 c1 c2 c3 c4 cf Q1 QK K3 n3 k3;have hwd:IntKind.i64.wrap (deep+1)=deep+1:=by rw[IntKind.wrap_i64];omega
 have hzW:w.heap.size<W3.heap.size:=(Array.getElem?_eq_some_iff.1 (J0 N3)).1;obtain⟨s0,hs0⟩:∃s0,s0=J7 (qs ts i 0 a):=⟨_,rfl⟩
 rw[<-hs0]at HR RT HL0;clear hs0;have FI:=J4 (TqS.first (K:=6) (d:=d) hl (J0 N3) (Kl.on (.of_below (zb2 tyO) (Nat.le_of_lt hl)) (J0 KT)) (J0 RT));clear N3 KT RT z0 z1 z2 z3 z4 zf;go_wp2_with fail
 go_loopg [7] (mz s0) (fun gk v wr=>∃(f m:Nat) (es:List Bool) (ns:List Bs) (ps:List (Option (Ty (d+1)))) (s2:RS) (vN vE vP:Value),Hid (mz s2=gk/\gk<f/\m+gk<=100001/\es.length=m/\ns.length=m/\ps.length=m)/\Hid (R=recL en (opt Q) f es ns ps s2)/\Hid (TqS 6 b en ts d w W3.heap.size s2 wr ns es ps vN vE vP))
 case atStart=>exact⟨mz s0+1,0,[],[],[],s0,_,_,_,⟨rfl,by omega,by have:=mz_le s0;have:=J0 HL0;omega,rfl,rfl,rfl⟩,J0 HR,J0 FI⟩
 case round=>
  clear FI HR;obtain⟨f,m,es,ns,ps,s2,vN,vE,vP,HF,HE,HW⟩:=hrel
  cases f with
  | zero=>exact absurd (J0 HF).2.1 (by omega)
  | succ f=>
  obtain⟨pn,cn,pe,ce,pp,cp,eN,eE,eP⟩:=(J0 HW).slices;subst eN eE eP;obtain⟨i2,y,a2,hq0,hqs⟩:=id (J0 HW).2.2.1;obtain⟨pp0,cc,h1,h2,h3⟩:=id hq0;obtain⟨⟨c0,c1,c2,c3,c4⟩,cf⟩:=zc0 h1;clear h1 h2 h3 hq0;have HLn:Hid (es.length<=1000000/\ns.length<=1000000/\ps.length<=1000000):=by
   have:=J0 HF;exact⟨by omega,by omega,by omega⟩
  by_cases hg:goOn s2 [125]=true
  ·obtain⟨hg1,hg2⟩:=zdm hg;have hy:y=0:=by rw[hqs]at hg1;exact qs_none.1 hg1
   subst hy;have IS:=J4 (is_q b en ts s2 [125] wr (J0 HW).2.2.1);rw[hg2]at IS;obtain⟨x,hx⟩:∃x,x=JB s2 [101,109,98,101,100]:=⟨_,rfl⟩
   obtain⟨s3,hs3⟩:∃s3,s3=zb4 s2 [101,109,98,101,100]:=⟨_,rfl⟩
   have HE2:=J4 ((J0 HE).trans (recL_step hg));rw[<-hx,<-hs3]at HE2;have HL3:Hid (s3.1.length<=s2.1.length):=by rw[hs3];exact zdk _ _
   have HG0:=J4 hg1;have HS3:=J4 hs3;have HX3:=J4 hx;clear HE hg hg1 hg2 hqs hx hs3;go_upto_region 26 with(go_at_call 64;refine(J0 IS).mono ?_;clear IS;rintro e w3 ⟨rfl,r1,r2⟩;have HX:=J4 ((J0 HW).call hl r2 r1);clear r1 r2 HW c0 c1 c2 c3 c4 cf)
   have IS2:=J4 (is_q b en ts s2 [101,109,98,101,100] w3 (J0 HX).2.2.1);rw[<-J0 HX3]at IS2;go_upto_if 85 with(go_at_call 64;refine(J0 IS2).mono ?_;clear IS2;rintro e w4 ⟨rfl,r1,r2⟩;have HY:=J4 ((J0 HX).call hl r2 r1);clear r1 r2 HX)
   go_cut []from 73 to 118 (fun wx=>∃Wy:World,Wy=wx/\Hid (TqS 6 b en ts d w W3.heap.size s3 Wy ns es ps (.slice pn ns.length cn) (.slice pe es.length ce) (.slice pp ps.length cp)))
   case first=>
    cases x
    ·have e3:s3=s2:=by rw[J0 HS3];exact if_neg (by rw[<-J0 HX3];decide)
     go_wp2_with fail;go_meet
     case rel=>exact⟨_,rfl,by rw[e3];exact J0 HY⟩
    ·have e3:s3=J7 s2:=by rw[J0 HS3];exact if_pos (J0 HX3).symm
     obtain⟨i3,y3,a3,hq3,hqs3⟩:=id (J0 HY).2.2.1;have hso3:(qs ts i3 y3 a3).1≠[]:=by rw[<-hqs3];exact acc_open (J0 HX3).symm
     obtain⟨rfl,hi3⟩:=zaz hso3;obtain⟨pp3,cc3,h1,-,-⟩:=id hq3;obtain⟨⟨c0,c1,c2,c3,c4⟩,cf⟩:=zc0 h1;have hw3:IntKind.i64.wrap ((i3:Int)+1)=(i3:Int)+1:=by rw[IntKind.wrap_i64];omega
     have HQ3:=J4 hq3;have HQS3:=J4 hqs3;clear hq3 hqs3 h1 hso3;go_wp2_with fail;go_meet
     case rel=>
      refine⟨_,rfl,(J0 HY).call hl ((Kl.refl _ _ _).set _) ?_⟩;rw[e3,J0 HQS3];have:=(J0 HQ3).next hi3;rwa[show((i3+1:Nat):Int)=(i3:Int)+1 by omega]at this
   case rest=>
    obtain⟨Wa,rfl,HA⟩:=hcut;clear HY;go_upto_region 29 with fail
    go_cut []from 73 to 118 (fun wx=>∃(vv:Value) (Wy:World),Wy=wx/\Hid (TqS 6 b en ts d w W3.heap.size (newS en s3 ns) Wy (ns++[JH s3 ns]) es ps vv (.slice pe es.length ce) (.slice pp ps.length cp)))
    case first=>
     have c2:=(J8 (J0 HA).1.1).1.2.2.1;have CL:=J4 (tq_name hn (J0 HA).1 (lo:=W3.heap.size) (by omega) (Nat.le_refl _) (J0 HA).2.2.1 (J0 HLn).2.1)
     go_region_law (first
      | (refine JJ (us:=#[rp b,.slice pn ns.length cn]) rfl 98 _ _ rfl (by simp[Act.eval]) zee ?_;refine(J0 CL).mono ?_;rintro e w4 ⟨rfl,e1,e2,g,cap,W4,E,e3,e4,HY⟩;refine⟨_,rfl,?_⟩)
      | refine zat rfl (.tmp 94) (.tmp 99) 22 rfl (by simp[Act.eval]) (by simp[Act.eval]) E ?_)
     all_goals
      go_wp2_with fail;go_meet
      case rel=>exact⟨_,_,rfl,(J0 HA).on hl (J0 HY)⟩
    case rest=>
     obtain⟨vN,Wb,rfl,HB⟩:=hcut;clear HA;obtain⟨pn2,cn2,-,-,-,-,eN,-,-⟩:=(J0 HB).slices;subst eN;obtain⟨s5,hs5⟩:∃s5,s5=newS en s3 ns:=⟨_,rfl⟩
     rw[<-hs5]at HB HE2;have HL5:Hid (s5.1.length<=s2.1.length):=by
      have h5:=zc6 en s3 ns;have h6:=J0 HL3;show _<=_;rw[hs5];omega
     clear hs5;go_upto_region 30 with fail
     have GE:=(J0 HB).1.embed (e:=x) (lo:=W3.heap.size) (by omega) (Nat.le_refl _) (Kl.refl b _ _) (J0 HB).2.2.1 (J0 HLn).1;obtain⟨e1,e2,g,cap,W4,E,e3,e4,HY⟩:=GE;have HAE:=J4 E;clear E;go_upto_region 31 with(at_builtin;refine zay rfl (.tmp 103) (.tmp 105) 24 rfl rfl rfl (J0 HAE) ?_;clear HAE)
     have HC:=J4 ((J0 HB).on hl (J0 HY));obtain⟨Wc,hWc⟩:∃Wc:World,Wc=W4.setCell ⟨W3.heap.size,3,none⟩ (.slice (some ⟨g,0,none⟩) (es.length+1) cap):=⟨_,rfl⟩
     rw[<-hWc]at HC ⊢;clear hWc e1 e2 e3 e4 HB HY;obtain⟨-,-,pe2,ce2,-,-,-,eE,-⟩:=(J0 HC).slices;rw[eE]at HC;clear eE
     go_cut []from 73 to 118 (fun wx=>∃(vv:Value) (Wy:World),Wy=wx/\Hid (TqS 6 b en ts d w W3.heap.size (Q s5).2 Wy (ns++[JH s3 ns]) (es++[x]) (ps++[(opt Q s5).1]) (.slice pn2 (ns++[JH s3 ns]).length cn2) (.slice pe2 (es++[x]).length ce2) vv))
     case first=>
      have c4:=(J8 (J0 HC).1.1).1.2.2.2.2;have CL:=J4 (tq_part (J0 HP) (J0 HC).1 (lo:=W3.heap.size) (by omega) (Nat.le_refl _) (J0 HC).2.2.1 (J0 HLn).2.2)
      go_region_law (first
       | (refine JJ (us:=#[rp b,.int .i64 (deep+1)]) rfl 45 _ _ rfl (by simp[Act.eval,Act.put]) typed_enter ?_;refine(J0 CL).mono ?_;rintro e w4 ⟨K2,S2,qn,qe,qp,m1,m2,m3,m4,m5,m6,rfl,e1,e2,g,cap,W4,E,e3,e4,HY⟩;refine⟨_,rfl,?_⟩)
       | refine zat rfl (.tmp 109) (.tmp 114) 25 rfl (by simp[Act.eval]) (by simp[Act.eval]) E ?_)
      all_goals
       go_wp2_with fail;go_meet
       case rel=>exact⟨_,_,rfl,(J0 HC).on hl (J0 HY)⟩
     case rest=>
      obtain⟨vP,Wd,rfl,HD⟩:=hcut;clear HC;have TC:=J4 (zeb b en ts hn (Q s5).2 [59] Wd (J0 HD).2.2.1);have hm:mz (Je en (Q s5).2 [59])<gk:=by
       have h8:=mz_less (en:=en) (m:=[59]) (J0 HT) (J0 HG0) (J0 HL5);have h9:=(J0 HF).1;omega
      have hf:=J0 HF;go_wp2_with (go_at_call 99;refine(J0 TC).mono ?_;clear TC;rintro e w6 ⟨rfl,r1,r2⟩;have HG:=J4 ((J0 HD).call hl r2 r1);clear r1 r2);go_roundg (mz (Je en (Q s5).2 [59]))
      case measure=>exact hm
      case rel=>exact⟨f,m+1,_,_,_,_,_,_,_,⟨rfl,by omega,by omega,by simp;omega,by simp;omega,by simp;omega⟩,J0 HE2,J0 HG⟩
  ·have hq2:R=((es,ns,ps),s2):=(J0 HE).trans (recL_stop hg);subst hq2;obtain⟨s5,hs5⟩:∃s5,s5=Je en s2 [125]:=⟨_,rfl⟩
   have TC:=J4 (zeb b en ts hn s2 [125]);rw[<-hs5]at TC;have HS5:=J4 hs5;clear hs5 HE;by_cases hy:y=0
   ·have hacc:JB s2 [125]=true:=by
     have h5:s2.2=none:=by rw[hqs];exact qs_none.2 hy
     simp[goOn,h5]at hg;exact hg
    subst hy;have IS:=J4 (is_q b en ts s2 [125] wr (J0 HW).2.2.1);rw[hacc]at IS;clear hacc hg hqs;go_upto_region 33 with(go_at_call 64;refine(J0 IS).mono ?_;clear IS;rintro e w3 ⟨rfl,r1,r2⟩;have HX:=J4 ((J0 HW).call hl r2 r1);clear r1 r2 HW c0 c1 c2 c3 c4 cf)
    go_wp2_with (go_at_call 99;refine(J0 TC _ (J0 HX).2.2.1).mono ?_;clear TC;rintro e w4 ⟨rfl,r1,r2⟩;have HY:=J4 ((J0 HX).call hl r2 r1);clear r1 r2 HX;have m1:=J8 (J0 HY).1.1;have m2:=J8 (J0 HY).2.1;obtain⟨⟨x0,x1,x2,x3,x4⟩,-⟩:=m1;obtain⟨⟨z0,z1,z2,z3,z4⟩,zf⟩:=m2);obtain⟨Wf,hWf⟩:∃Wf:World,Wf=((((w4.setCell ⟨w.heap.size,0,none⟩ (.int .i64 6)).setCell ⟨w.heap.size,1,none⟩ (.string ⟨#[]⟩)).setCell ⟨w.heap.size,2,none⟩ (.slice pn ns.length cn)).setCell ⟨w.heap.size,3,none⟩ (.slice pe es.length ce)).setCell ⟨w.heap.size,4,none⟩ (.slice pp ps.length cp):=⟨_,rfl⟩
    rw[<-hWf];obtain⟨d1,d2,d3,d4⟩:=(J0 HY).done hl Wf hWf;obtain⟨⟨y0,y1,y2,y3,y4⟩,-⟩:=J8 d1;exact bodyPost_ret (v:=Jc 6 ⟨#[]⟩ pn pe pp ns.length cn es.length ce ps.length cp) (by simp[results,Tryz.results45,go_sem,y0,y1,y2,y3,y4]) rfl ⟨_,_,_,_,_,_,_,_,_,rfl,by rw[<-J0 HS5];exact d2,d3,d4⟩
   ·have hy1:(y==0)=false:=by simpa using hy
    have hy2:decide (y=0)=false:=by simpa using hy
    clear hg hqs;go_upto_region 33 with fail
    have HX:=J4 (J0 HW);clear c0 c1 c2 c3 c4 cf HW;go_wp2_with (go_at_call 99;refine(J0 TC _ (J0 HX).2.2.1).mono ?_;clear TC;rintro e w4 ⟨rfl,r1,r2⟩;have HY:=J4 ((J0 HX).call hl r2 r1);clear r1 r2 HX;have m1:=J8 (J0 HY).1.1;have m2:=J8 (J0 HY).2.1;obtain⟨⟨x0,x1,x2,x3,x4⟩,-⟩:=m1;obtain⟨⟨z0,z1,z2,z3,z4⟩,zf⟩:=m2);obtain⟨Wf,hWf⟩:∃Wf:World,Wf=((((w4.setCell ⟨w.heap.size,0,none⟩ (.int .i64 6)).setCell ⟨w.heap.size,1,none⟩ (.string ⟨#[]⟩)).setCell ⟨w.heap.size,2,none⟩ (.slice pn ns.length cn)).setCell ⟨w.heap.size,3,none⟩ (.slice pe es.length ce)).setCell ⟨w.heap.size,4,none⟩ (.slice pp ps.length cp):=⟨_,rfl⟩
    rw[<-hWf];obtain⟨d1,d2,d3,d4⟩:=(J0 HY).done hl Wf hWf;obtain⟨⟨y0,y1,y2,y3,y4⟩,-⟩:=J8 d1;exact bodyPost_ret (v:=Jc 6 ⟨#[]⟩ pn pe pp ns.length cn es.length ce ps.length cp) (by simp[results,Tryz.results45,go_sem,y0,y1,y2,y3,y4]) rfl ⟨_,_,_,_,_,_,_,_,_,rfl,by rw[<-J0 HS5];exact d2,d3,d4⟩
theorem rec_gives {b:Nat} {en:Int} {ts:List Tok} (hn:ts.length<=100000):RecGives b en ts:=fun d s w hd hx hk hS hG h=>by
 have e:(64:Int)-(d:Int)+1=65-(d:Int):=by omega
 have hs:=h.nt;have TR:=typed_rec b en ts hn s (64-(d:Int)) (by omega) (by omega) hx hk hS d (pTS en d).1 (Takes.pTS en d).1 (by rw[e];exact hG) w h _ rfl;have E:=recE (en:=en) (Takes.pTS en d).1 (zf1 en d).1 (mz (J7 s)+1) ((J7 s).1.length+1) [] [] [] [] (J7 s) (za4 hs) (Nat.lt_succ_self _) (Nat.lt_succ_self _);unfold tyA;rw[if_neg hk,if_neg (by rw[hS];decide),if_neg (by rw[hS];decide),if_neg (by rw[hS];decide),if_neg (by rw[hS];decide),if_pos hS];refine TR.mono fun x w' ⟨pn,pe,pp,nn,cn,ne,ce,np,cp,e1,r1,r2,r3⟩=>⟨6,_,pn,pe,pp,nn,cn,ne,ce,np,cp,e1,?_,r2,fun hq V hV=>?_⟩
 ·rw[E.1]at r1;exact r1
 ·have E2:=E.2 hq rfl;have:=r3 (zb7 en (pTS en d).1 ((J7 s).1.length+1) [] [] [] (J7 s)).1.2.2 (by rw[E2]) V hV;rw[E2]at this;exact this
end Go.Proofs.YtdamlfkieecnjaaGreatDoor
namespace Go.Proofs.YtdamlfkieecnjaaGreatDoor
open Go Go.RowKit Lx
def SigH (b:Nat) (en:Int) (ts:List Tok) (deep:Int) (d:Nat) (g:RS->Ty (d+1)×RS):Prop:=∀(s:RS) (w:World),Nt s->RqAt b en ts (meS en (deep+1) s) w->Calls Tryz.prog 96 #[rp b,.int .i64 (deep+2)] w fun e w'=>∃(pp:Option Addr) (np cp:Nat),e=.returned (.slice pp np cp)/\RqAt b en ts (g s).2 w'/\Kx b w w'/\((g s).2.2=none->∀V:World,(∀j,w.heap.size<=j->j<w'.heap.size->V.heap[j]?=w'.heap[j]?)->TyV V d (Jc 7 ⟨#[]⟩ none none pp 0 0 0 0 np cp) (g s).1)
theorem ifaL_step {α:Type} {en:Int} {p:RS->α×RS} {f:Nat} {ns:List Bs} {ps:List α} {s:RS} (hg:goOn s [125]=true):ifaL en p (f+1) ns ps s=ifaL en p f (ns++[JH s ns]) (ps++[(p (newS en s ns)).1]) (Je en (p (newS en s ns)).2 [59]):=by
 rw[ifaL,if_pos hg]
theorem ifaL_stop {α:Type} {en:Int} {p:RS->α×RS} {f:Nat} {ns:List Bs} {ps:List α} {s:RS} (hg:¬goOn s [125]=true):ifaL en p (f+1) ns ps s=((ns,ps),s):=by
 rw[ifaL,if_neg hg]
section
variable {K en deep:Int} {d bx b lo:Nat} {ts:List Tok} {s:RS} {wr:World} {ns:List Bs} {es:List Bool} {ps:List (Option (Ty (d+1)))} {vN vE vP:Value}
theorem tq_sig {g:RS->Ty (d+1)×RS} (hG:SigH b en ts deep d g) (h:TqAt K d bx wr ns es ps vN vE vP) (hbl:b<lo) (hlb:lo<=bx) (hs:Nt s) (hR:RqAt b en ts (meS en (deep+1) s) wr) (hl:ps.length<=1000000):Calls Tryz.prog 96 #[rp b,.int .i64 (deep+2)] wr.drew fun e w1=>∃(pp:Option Addr) (np cp:Nat),e=.returned (.slice pp np cp) /\
  Grown 25 27 bx 4 vP [.int .i64 7,.string ⟨#[]⟩,.slice none 0 0,.slice none 0 0,.slice pp np cp] (ps.length+1) w1 fun v' W5=>TqAt K d bx W5 ns es (ps++[(opt g s).1]) vN vE v'/\Kl b lo wr W5/\RqAt b en ts (g s).2 W5:=
 (hG s _ hs hR.drew).mono fun _ _ ⟨pp,np,cp,h1,h2,h3,h4⟩=>⟨pp,np,cp,h1,h.part hbl hlb h3.undrew h2 (fun V hV=>opt_oq fun hq=>h4 hq V fun j j1 j2=>hV j j1 j2) (one5 _ _ _ _ _ _ _ _ _ _ _) rfl hl⟩
end
theorem iface_q (b:Nat) (en:Int) (ts:List Tok) (hn:ts.length<=100000) (deep:Int) (hd0:0<=deep) (hd:deep<=64) (d:Nat) (Q:RS->Ty (d+1)×RS) (hQT:Takes Q) (hQ:SigH b en ts deep d Q) (s:RS) (w:World) (h:RqAt b en ts s w) (R:(List Bs×List (Option (Ty (d+1))))×RS) (hR:R=ifaL en (opt Q) (mz (Je en s [123])+1) [] [] (Je en s [123])) :
  Calls Tryz.prog 97 #[rp b,.int .i64 deep] w fun e w'=>∃(pn pe pp:Option Addr) (nn cn ne ce np cp:Nat),e=.returned (Jc 8 ⟨#[]⟩ pn pe pp nn cn ne ce np cp)/\RqAt b en ts (Je en R.2 [125]) w'/\Kx b w w'/\∀l:List (Ty (d+1)),R.1.2=l.map some->∀V:World,(∀j,w.heap.size<=j->j<w'.heap.size->V.heap[j]?=w'.heap[j]?)->TyV V (d+1) (Jc 8 ⟨#[]⟩ pn pe pp nn cn ne ce np cp) (zaf (d+1) 8 [] R.1.1 [] l):=by
 have hl:=h.lt;have HP:=J4 hQ;have HT:=J4 hQT;have FI:=J4 (TqS.first (K:=8) (d:=d) hl (J6 w tyO) (.of_below (zb2 tyO) (Nat.le_of_lt hl)) (h.alloc tyO));obtain⟨s0,hs0⟩:∃s0,s0=Je en s [123]:=⟨_,rfl⟩
 have TK:=J4 (zeb b en ts hn s [123] ((w.alloc tyO).alloc (.cells #[.int .i64 8,.string ⟨#[]⟩,.slice none 0 0,.slice none 0 0,.slice none 0 0] 27)) ((h.alloc tyO).alloc _));rw[<-hs0]at hR TK;have HR:=J4 hR;have HL0:Hid (s0.1.length<=100000):=by
  obtain⟨i,y,a,-,e⟩:=h;have h1:=JK en s [123];have h2:s.1.length<=ts.length:=by rw[e];unfold qs;split <;> simp
  show _<=_;rw[hs0];omega
 have hwd1:IntKind.i64.wrap (deep+1)=deep+1:=by rw[IntKind.wrap_i64];omega
 have hwd2:IntKind.i64.wrap (deep+2)=deep+2:=by rw[IntKind.wrap_i64];omega
 have hbx2:(w.alloc tyO).heap.size=w.heap.size+1:=by simp
 rw[hbx2]at FI;clear hQ hQT hR h hs0 hbx2;go_enter Tryz.func97,Tryz.ntmps97;go_wp2_with (go_at_call 99;refine(J0 TK).mono ?_;clear TK;rintro e w2 ⟨rfl,r1,r2⟩;have HI:=J4 ((J0 FI).call hl r2 r1);clear r1 r2 FI)
 go_loopg [] (mz s0) (fun gk wr=>∃(f m:Nat) (es:List Bool) (ns:List Bs) (ps:List (Option (Ty (d+1)))) (s2:RS) (vN vE vP:Value),Hid (mz s2=gk/\gk<f/\m+gk<=100001/\ns.length=m/\ps.length=m)/\Hid (es=[])/\Hid (R=ifaL en (opt Q) f ns ps s2)/\Hid (TqS 8 b en ts d w (w.heap.size+1) s2 wr ns es ps vN vE vP))
 case atStart=>exact⟨mz s0+1,0,[],[],[],s0,_,_,_,⟨rfl,by omega,by have:=mz_le s0;have:=J0 HL0;omega,rfl,rfl⟩,rfl,J0 HR,J0 HI⟩
 case round=>
  clear HI HR;obtain⟨f,m,es,ns,ps,s2,vN,vE,vP,HF,HES,HE,HW⟩:=hrel
  cases f with
  | zero=>exact absurd (J0 HF).2.1 (by omega)
  | succ f=>
  obtain⟨pn,cn,pe,ce,pp,cp,eN,eE,eP⟩:=(J0 HW).slices;subst eN eE eP;obtain⟨i2,y,a2,hq0,hqs⟩:=id (J0 HW).2.2.1;obtain⟨pp0,cc,h1,h2,h3⟩:=id hq0;obtain⟨⟨c0,c1,c2,c3,c4⟩,cf⟩:=zc0 h1;clear h1 h2 h3 hq0;have HLn:Hid (ns.length<=1000000/\ps.length<=1000000):=by
   have:=J0 HF;exact⟨by omega,by omega⟩
  by_cases hg:goOn s2 [125]=true
  ·obtain⟨hg1,hg2⟩:=zdm hg;have hy:y=0:=by rw[hqs]at hg1;exact qs_none.1 hg1
   subst hy;have IS:=J4 (is_q b en ts s2 [125] wr (J0 HW).2.2.1);rw[hg2]at IS;have HE2:=J4 ((J0 HE).trans (ifaL_step hg));have HG0:=J4 hg1;have HN2:=J4 (J0 HW).2.2.1.nt;clear HE hg hg1 hg2 hqs;go_upto_region 4 with(go_at_call 64;refine(J0 IS).mono ?_;clear IS;rintro e w3 ⟨rfl,r1,r2⟩;have HA:=J4 ((J0 HW).call hl r2 r1);clear r1 r2 HW c0 c1 c2 c3 c4 cf)
   go_cut []from 9 to 56 (fun wx=>∃(vv:Value) (Wy:World),Wy=wx/\Hid (TqS 8 b en ts d w (w.heap.size+1) (newS en s2 ns) Wy (ns++[JH s2 ns]) es ps vv (.slice pe es.length ce) (.slice pp ps.length cp)))
   case first=>
    have c2:=(J8 (J0 HA).1.1).1.2.2.1;have CL:=J4 (tq_name hn (J0 HA).1 (lo:=w.heap.size+1) (by omega) (Nat.le_refl _) (J0 HA).2.2.1 (J0 HLn).1)
    go_region_law (first
     | (refine JJ (us:=#[rp b,.slice pn ns.length cn]) rfl 98 _ _ rfl (by simp[Act.eval]) zee ?_;refine(J0 CL).mono ?_;rintro e w4 ⟨rfl,e1,e2,g,cap,W4,E,e3,e4,HY⟩;refine⟨_,rfl,?_⟩)
     | refine zat rfl (.tmp 20) (.tmp 25) 22 rfl (by simp[Act.eval]) (by simp[Act.eval]) E ?_)
    all_goals
     go_wp2_with fail;go_meet
     case rel=>exact⟨_,_,rfl,(J0 HA).on hl (J0 HY)⟩
   case rest=>
    obtain⟨vN,Wb,rfl,HB⟩:=hcut;clear HA;obtain⟨pn2,cn2,-,-,-,-,eN,-,-⟩:=(J0 HB).slices;subst eN;obtain⟨s3,hs3⟩:∃s3,s3=newS en s2 ns:=⟨_,rfl⟩
    rw[<-hs3]at HB HE2;have HL3:Hid (s3.1.length<=s2.1.length):=by
     have h5:=zc6 en s2 ns;show _<=_;rw[hs3];omega
    have HN3:Hid (Nt s3):=by rw[hs3];exact zet (J0 HN2) _
    obtain⟨q,hq⟩:∃q,q=(s3.2.isNone&&!JB s3 [40]):=⟨_,rfl⟩
    have HQ0:=J4 hq;clear hs3 hq;go_upto_region 5 with fail
    go_cut [37]from 9 to 56 (fun vq wx=>∃Wy:World,Wy=wx/\vq=.bool q/\Hid (TqS 8 b en ts d w (w.heap.size+1) s3 Wy (ns++[JH s2 ns]) es ps (.slice pn2 (ns++[JH s2 ns]).length cn2) (.slice pe es.length ce) (.slice pp ps.length cp)))
    case first=>
     obtain⟨i3,y3,a3,hq3,hqs3⟩:=id (J0 HB).2.2.1;obtain⟨pp3,cc3,h1,-,-⟩:=id hq3;obtain⟨⟨c0,c1,c2,c3,c4⟩,cf⟩:=zc0 h1;clear h1 hq3;by_cases hy3:y3=0
     ·subst hy3;have h0:s3.2=none:=by rw[hqs3];exact qs_none.2 rfl
      obtain⟨z,hz⟩:∃z,z=JB s3 [40]:=⟨_,rfl⟩
      have IS2:=J4 (is_q b en ts s3 [40] Wb (J0 HB).2.2.1);have hq1:q=!z:=by rw[J0 HQ0,h0,hz];rfl
      rw[<-hz]at IS2;have HQ1:=J4 hq1;clear hz h0 hqs3 hq1;go_wp2_with (go_at_call 64;refine(J0 IS2).mono ?_;clear IS2;rintro e w3 ⟨rfl,r1,r2⟩;have HC:=J4 ((J0 HB).call hl r2 r1);clear r1 r2);go_meet
      case rel=>exact⟨_,rfl,by rw[J0 HQ1],J0 HC⟩
     ·have hy1:(y3==0)=false:=by simpa using hy3
      have hy2:decide (y3=0)=false:=by simpa using hy3
      have hq1:q=false:=by
       rw[J0 HQ0];have:s3.2≠none:=by rw[hqs3];exact fun h=>hy3 (qs_none.1 h)
       cases hn3:s3.2 with
       | none=>exact absurd hn3 this
       | some r=>rfl
      have HQ1:=J4 hq1;clear hqs3 hq1;go_wp2_with fail;go_meet
      case rel=>exact⟨_,rfl,by rw[J0 HQ1],J0 HB⟩
    case rest=>
     obtain⟨Wc,rfl,rfl,HC⟩:=hcut;clear HB;obtain⟨s4,hs4⟩:∃s4,s4=(if s3.2=none/\JB s3 [40]=false then Jb en s3 else s3):=⟨_,rfl⟩
     have HS4:=J4 hs4;clear hs4;go_upto_if 37 with fail
     go_cut []from 9 to 56 (fun wx=>∃Wy:World,Wy=wx/\Hid (TqS 8 b en ts d w (w.heap.size+1) s4 Wy (ns++[JH s2 ns]) es ps (.slice pn2 (ns++[JH s2 ns]).length cn2) (.slice pe es.length ce) (.slice pp ps.length cp)))
     case first=>
      cases q
      ·have e4:s4=s3:=by
        rw[J0 HS4];refine if_neg fun⟨h1,h2⟩=>?_
        have:=J0 HQ0;rw[h1,h2]at this;exact absurd this (by decide)
       go_wp2_with fail;go_meet
       case rel=>exact⟨_,rfl,by rw[e4];exact J0 HC⟩
      ·have e4:s4=zbk en 13 s3:=by
        rw[J0 HS4,zbp];have h5:=(J0 HQ0).symm;simp only[Bool.and_eq_true]at h5;exact if_pos ⟨by simpa using h5.1,by simpa using h5.2⟩
       have FL:=J4 (zdv b en ts s3 13 (by decide) Wc (J0 HC).2.2.1);rw[<-e4]at FL;clear e4;go_wp2_with (go_at_call 71;refine(J0 FL).mono ?_;clear FL;rintro e w3 ⟨rfl,r1,r2⟩;have HD:=J4 ((J0 HC).call hl r2 r1);clear r1 r2);go_meet
       case rel=>exact⟨_,rfl,J0 HD⟩
     case rest=>
      obtain⟨Wd,rfl,HD⟩:=hcut;clear HC;obtain⟨s5,hs5⟩:∃s5,s5=meS en (deep+1) s3:=⟨_,rfl⟩
      have hs5':s5=if 64<deep+1 then zbk en 15 s4 else s4:=by rw[hs5,J0 HS4];rfl
      have HS5:=J4 hs5;have HT5:=J4 hs5';clear hs5 hs5';go_upto_if 42 with fail
      go_cut []from 9 to 56 (fun wx=>∃Wy:World,Wy=wx/\Hid (TqS 8 b en ts d w (w.heap.size+1) s5 Wy (ns++[JH s2 ns]) es ps (.slice pn2 (ns++[JH s2 ns]).length cn2) (.slice pe es.length ce) (.slice pp ps.length cp)))
      case first=>
       by_cases h64:64<deep+1
       ·have hb64:decide (64<deep+1)=true:=by simpa using h64
        have FL:=J4 (zdv b en ts s4 15 (by decide) Wd (J0 HD).2.2.1);have e5:s5=zbk en 15 s4:=(J0 HT5).trans (if_pos h64);rw[<-e5]at FL;clear e5;go_wp2_with (go_at_call 71;refine(J0 FL).mono ?_;clear FL;rintro e w3 ⟨rfl,r1,r2⟩;have HG:=J4 ((J0 HD).call hl r2 r1);clear r1 r2);go_meet
        case rel=>exact⟨_,rfl,J0 HG⟩
       ·have hb64:decide (64<deep+1)=false:=by simpa using h64
        have e5:s5=s4:=(J0 HT5).trans (if_neg h64);have HE5:=J4 e5;clear e5;go_wp2_with fail;go_meet
        case rel=>exact⟨_,rfl,by rw[J0 HE5];exact J0 HD⟩
      case rest=>
       obtain⟨We,rfl,HG⟩:=hcut;clear HD;go_upto_region 9 with fail
       go_cut []from 9 to 56 (fun wx=>∃(vv:Value) (Wy:World),Wy=wx/\Hid (TqS 8 b en ts d w (w.heap.size+1) (Q s3).2 Wy (ns++[JH s2 ns]) es (ps++[(opt Q s3).1]) (.slice pn2 (ns++[JH s2 ns]).length cn2) (.slice pe es.length ce) vv))
       case first=>
        have c4:=(J8 (J0 HG).1.1).1.2.2.2.2;have CL:=J4 (tq_sig (J0 HP) (J0 HG).1 (lo:=w.heap.size+1) (by omega) (Nat.le_refl _) (J0 HN3) (by rw[<-J0 HS5];exact(J0 HG).2.2.1) (J0 HLn).2)
        go_region_law (first
         | (refine JJ (us:=#[rp b,.int .i64 (deep+2)]) rfl 96 _ _ rfl (by simp[Act.eval,Act.put]) zeq ?_;refine(J0 CL).mono ?_;rintro e w4 ⟨qp,m5,m6,rfl,e1,e2,g,cap,W4,E,e3,e4,HY⟩;refine⟨_,rfl,?_⟩)
         | refine zat rfl (.tmp 46) (.tmp 52) 25 rfl (by simp[Act.eval]) (by simp[Act.eval]) E ?_)
        all_goals
         go_wp2_with fail;go_meet
         case rel=>exact⟨_,_,rfl,(J0 HG).on hl (J0 HY)⟩
       case rest=>
        obtain⟨vP,Wf,rfl,HH⟩:=hcut;clear HG;have TC:=J4 (zeb b en ts hn (Q s3).2 [59] Wf (J0 HH).2.2.1);have hm:mz (Je en (Q s3).2 [59])<gk:=by
         have h8:=mz_less (en:=en) (m:=[59]) (J0 HT) (J0 HG0) (J0 HL3);have h9:=(J0 HF).1;omega
        have hf:=J0 HF;go_wp2_with (go_at_call 99;refine(J0 TC).mono ?_;clear TC;rintro e w6 ⟨rfl,r1,r2⟩;have HK:=J4 ((J0 HH).call hl r2 r1);clear r1 r2);go_roundg (mz (Je en (Q s3).2 [59]))
        case measure=>exact hm
        case rel=>exact⟨f,m+1,_,_,_,_,_,_,_,⟨rfl,by omega,by omega,by simp;omega,by simp;omega⟩,J0 HES,J0 HE2,J0 HK⟩
  ·have hq2:R=((ns,ps),s2):=(J0 HE).trans (ifaL_stop hg);subst hq2;obtain⟨s5,hs5⟩:∃s5,s5=Je en s2 [125]:=⟨_,rfl⟩
   have TC:=J4 (zeb b en ts hn s2 [125]);rw[<-hs5]at TC;have HS5:=J4 hs5;clear hs5 HE;by_cases hy:y=0
   ·have hacc:JB s2 [125]=true:=by
     have h5:s2.2=none:=by rw[hqs];exact qs_none.2 hy
     simp[goOn,h5]at hg;exact hg
    subst hy;have IS:=J4 (is_q b en ts s2 [125] wr (J0 HW).2.2.1);rw[hacc]at IS;clear hacc hg hqs;go_upto_region 11 with(go_at_call 64;refine(J0 IS).mono ?_;clear IS;rintro e w3 ⟨rfl,r1,r2⟩;have HX:=J4 ((J0 HW).call hl r2 r1);clear r1 r2 HW c0 c1 c2 c3 c4 cf)
    go_wp2_with (go_at_call 99;refine(J0 TC _ (J0 HX).2.2.1).mono ?_;clear TC;rintro e w4 ⟨rfl,r1,r2⟩;have HY:=J4 ((J0 HX).call hl r2 r1);clear r1 r2 HX;have m1:=J8 (J0 HY).1.1;have m2:=J8 (J0 HY).2.1;obtain⟨⟨x0,x1,x2,x3,x4⟩,-⟩:=m1;obtain⟨⟨z0,z1,z2,z3,z4⟩,zf⟩:=m2);obtain⟨Wf,hWf⟩:∃Wf:World,Wf=((((w4.setCell ⟨w.heap.size,0,none⟩ (.int .i64 8)).setCell ⟨w.heap.size,1,none⟩ (.string ⟨#[]⟩)).setCell ⟨w.heap.size,2,none⟩ (.slice pn ns.length cn)).setCell ⟨w.heap.size,3,none⟩ (.slice pe es.length ce)).setCell ⟨w.heap.size,4,none⟩ (.slice pp ps.length cp):=⟨_,rfl⟩
    rw[<-hWf];obtain⟨d1,d2,d3,d4⟩:=(J0 HY).done hl Wf hWf;obtain⟨⟨y0,y1,y2,y3,y4⟩,-⟩:=J8 d1;exact bodyPost_ret (v:=Jc 8 ⟨#[]⟩ pn pe pp ns.length cn es.length ce ps.length cp) (by simp[results,Tryz.results97,go_sem,y0,y1,y2,y3,y4]) rfl ⟨_,_,_,_,_,_,_,_,_,rfl,by rw[<-J0 HS5];exact d2,d3,fun l hll V hV=>by
     have h9:=d4 l hll V hV;rw[J0 HES]at h9 ⊢;exact h9⟩
   ·have hy1:(y==0)=false:=by simpa using hy
    have hy2:decide (y=0)=false:=by simpa using hy
    clear hg hqs;go_upto_region 11 with fail
    have HX:=J4 (J0 HW);clear c0 c1 c2 c3 c4 cf HW;go_wp2_with (go_at_call 99;refine(J0 TC _ (J0 HX).2.2.1).mono ?_;clear TC;rintro e w4 ⟨rfl,r1,r2⟩;have HY:=J4 ((J0 HX).call hl r2 r1);clear r1 r2 HX;have m1:=J8 (J0 HY).1.1;have m2:=J8 (J0 HY).2.1;obtain⟨⟨x0,x1,x2,x3,x4⟩,-⟩:=m1;obtain⟨⟨z0,z1,z2,z3,z4⟩,zf⟩:=m2);obtain⟨Wf,hWf⟩:∃Wf:World,Wf=((((w4.setCell ⟨w.heap.size,0,none⟩ (.int .i64 8)).setCell ⟨w.heap.size,1,none⟩ (.string ⟨#[]⟩)).setCell ⟨w.heap.size,2,none⟩ (.slice pn ns.length cn)).setCell ⟨w.heap.size,3,none⟩ (.slice pe es.length ce)).setCell ⟨w.heap.size,4,none⟩ (.slice pp ps.length cp):=⟨_,rfl⟩
    rw[<-hWf];obtain⟨d1,d2,d3,d4⟩:=(J0 HY).done hl Wf hWf;obtain⟨⟨y0,y1,y2,y3,y4⟩,-⟩:=J8 d1;exact bodyPost_ret (v:=Jc 8 ⟨#[]⟩ pn pe pp ns.length cn es.length ce ps.length cp) (by simp[results,Tryz.results97,go_sem,y0,y1,y2,y3,y4]) rfl ⟨_,_,_,_,_,_,_,_,_,rfl,by rw[<-J0 HS5];exact d2,d3,fun l hll V hV=>by
     have h9:=d4 l hll V hV;rw[J0 HES]at h9 ⊢;exact h9⟩
end Go.Proofs.YtdamlfkieecnjaaGreatDoor
namespace Go.Proofs.YtdamlfkieecnjaaGreatDoor
open Go Go.RowKit Lx
def IfaH (b:Nat) (en:Int) (ts:List Tok) (deep:Int) (d:Nat) (s s9:RS) (R:List Bs×List (Option (Ty (d+1)))):Prop:=∀w:World,RqAt b en ts s w->Calls Tryz.prog 97 #[rp b,.int .i64 deep] w fun e w'=>∃(pn pe pp:Option Addr) (nn cn ne ce np cp:Nat),e=.returned (Jc 8 ⟨#[]⟩ pn pe pp nn cn ne ce np cp)/\RqAt b en ts s9 w'/\Kx b w w'/\∀l:List (Ty (d+1)),R.2=l.map some->∀V:World,(∀j,w.heap.size<=j->j<w'.heap.size->V.heap[j]?=w'.heap[j]?)->TyV V (d+1) (Jc 8 ⟨#[]⟩ pn pe pp nn cn ne ce np cp) (zaf (d+1) 8 [] R.1 [] l)
theorem typed_iface (b:Nat) (en:Int) (ts:List Tok) (hn:ts.length<=100000) (s:RS) (deep:Int) (hd0:0<=deep) (hd:deep<=64) (hx:za2 (J5 s)=true) (hk:¬(J5 s).2.1=2) (hS:(J5 s).2.2.1=[105,110,116,101,114,102,97,99,101]) (d:Nat) (s9:RS) (R:List Bs×List (Option (Ty (d+1)))) (hI:IfaH b en ts deep d (J7 s) s9 R) (w:World) (h:RqAt b en ts s w) :
  Calls Tryz.prog 45 #[rp b,.int .i64 deep] w fun e w'=>∃(pn pe pp:Option Addr) (nn cn ne ce np cp:Nat),e=.returned (Jc 8 ⟨#[]⟩ pn pe pp nn cn ne ce np cp)/\RqAt b en ts s9 w'/\Kx b w w'/\∀l:List (Ty (d+1)),R.2=l.map some->∀V:World,(∀j,w.heap.size<=j->j<w'.heap.size->V.heap[j]?=w'.heap[j]?)->TyV V (d+1) (Jc 8 ⟨#[]⟩ pn pe pp nn cn ne ce np cp) (zaf (d+1) 8 [] R.1 [] l):=by
 have HG:=J4 hI;clear hI;have hl:=h.lt;have hso:=zac hx;have BG:=J4 (zaj b en ts s (w.alloc tyO) (h.alloc tyO));have KD:=J4 (qHead b en ts s w false (by simpa using hk));rw[hx]at BG;clear hx h hk;go_enter Tryz.func45,Tryz.ntmps45;go_upto_region 9 with(first|(go_at_call 93;refine(J0 BG).mono ?_;clear BG;rintro e w2 ⟨rfl,r1,r2⟩;have R1:=J4 r1;have R2:=J4 r2;clear r1 r2)|(go_at_call 94;refine(J0 KD _ (J0 R1) (J0 R2)).mono ?_;clear KD;rintro e w3 ⟨rfl,r1,r2⟩;have R3:=J4 r1;have R4:=J4 r2;clear r1 r2))
 obtain⟨i,y,a,hq,rfl⟩:=J0 R3;obtain⟨rfl,hi⟩:=zaz hso;obtain⟨t,ht⟩:∃t,ts[i]?=some t:=⟨_,List.getElem?_eq_getElem hi⟩
 obtain⟨p,c,h1,h2,h3⟩:=id hq;obtain⟨g,o,rfl,t0,t1,t2,t3⟩:=h2.tok ht;obtain⟨⟨c0,c1,c2,c3,c4⟩,cf⟩:=zc0 h1;have hSt:t.2.2.1=[105,110,116,101,114,102,97,99,101]:=by rw[<-hS];simp[qs,zdy ht,J5]
 rw[hSt]at t2;have HQ:=J4 hq;have hi2:(i:Int)<(ts.length:Int):=by omega
 have hw:IntKind.i64.wrap ((i:Int)+1)=(i:Int)+1:=by rw[IntKind.wrap_i64];omega
 clear hq h1 h2 hS hSt ht t0 t1 t3 hso;go_quiet (fail);obtain⟨W2,hW2⟩:∃W2:World,W2=w3.drewN nq:=⟨_,rfl⟩
 have q1:QAt b en ts i 0 a W2:=(J0 HQ).kept (by rw[hW2];exact(Kl.refl _ _ _).drewN nq) (by rw[hW2];rfl);have K2:Kx b (w.alloc tyO) W2:=by rw[hW2];exact(J0 R4).drewN nq
 obtain⟨p2,c',e1,e2,e3⟩:=id q1;have k3:W2.heap[w.heap.size]?=some tyO:=(K2.2 _ (by simp) (by omega)).trans (J6 w tyO);have Q1:=J4 q1;have QK:=J4 K2;have K3:=J4 k3;rw[<-hW2];clear c0 c1 c2 c3 c4 cf t2 hW2 HQ R3 R4 q1 K2;obtain⟨⟨c0,c1,c2,c3,c4⟩,cf⟩:=zc0 e1;clear e1 e2;go_upto_region 11 with fail
 obtain⟨W3,hW3⟩:∃W3:World,W3=W2.setCell ⟨b,2,none⟩ (.int .i64 ((i:Int)+1)):=⟨_,rfl⟩
 have n3:W3.heap[w.heap.size]?=some tyO:=by rw[hW3];exact(Below.heap_setCell _ _ _ _ (by show w.heap.size≠b;omega)).trans (J0 K3)
 have RT:Hid (RqAt b en ts (J7 (qs ts i 0 a)) W3):=by
  have:=(J0 Q1).next hi;rwa[show((i+1:Nat):Int)=(i:Int)+1 by omega,<-hW3]at this
 have KT:Hid (Kx b (w.alloc tyO) W3):=by rw[hW3];exact(J0 QK).set _
 rw[<-hW3];have N3:=J4 n3;obtain⟨⟨z0,z1,z2,z3,z4⟩,zf⟩:=J8 n3;clear hW3 c0 c1 c2 c3 c4 cf Q1 QK K3 n3 k3;have hwd:IntKind.i64.wrap (deep+1)=deep+1:=by rw[IntKind.wrap_i64];omega
 have hzW:w.heap.size<W3.heap.size:=(Array.getElem?_eq_some_iff.1 (J0 N3)).1;have HG2:=J4 (J0 HG _ (J0 RT));clear HG;go_wp2_with (go_at_call 97;refine(J0 HG2).mono ?_;clear HG2 z0 z1 z2 z3 z4 zf;rintro e w4 ⟨pn,pe,pp,nn,cn,ne,ce,np,cp,rfl,q1,q2,q3⟩;have k4:w4.heap[w.heap.size]?=some tyO:=(q2.2 _ hzW (by omega)).trans (J0 N3);have m:=J8 k4;obtain⟨⟨z0,z1,z2,z3,z4⟩,zf⟩:=m;have Q1:=J4 q1;have Q2:=J4 (Kl.on (J0 KT) q2);have Q3:=J4 q3;have K5:=J4 k4;have hs4:=q2.size;clear q1 q2 q3 k4);obtain⟨Wf,hWf⟩:∃Wf:World,Wf=((((w4.setCell ⟨w.heap.size,0,none⟩ (.int .i64 8)).setCell ⟨w.heap.size,1,none⟩ (.string ⟨#[]⟩)).setCell ⟨w.heap.size,2,none⟩ (.slice pn nn cn)).setCell ⟨w.heap.size,3,none⟩ (.slice pe ne ce)).setCell ⟨w.heap.size,4,none⟩ (.slice pp np cp):=⟨_,rfl⟩
 rw[<-hWf];have hK:Kl b w.heap.size w w4:=Kl.on (.of_below (zb2 tyO) (Nat.le_of_lt hl)) (J0 Q2);have hWs:Wf.heap.size=w4.heap.size:=by rw[hWf];simp
 obtain⟨d1,d2,d3,d4⟩:=q_put (J0 K5) (J0 Q1) hK hl (Nat.le_refl _) Wf hWf;obtain⟨⟨y0,y1,y2,y3,y4⟩,-⟩:=J8 d1;exact bodyPost_ret (v:=Jc 8 ⟨#[]⟩ pn pe pp nn cn ne ce np cp) (by simp[results,Tryz.results45,go_sem,y0,y1,y2,y3,y4]) rfl ⟨_,_,_,_,_,_,_,_,_,rfl,d2,d3,fun l hl V hV=>J0 Q3 l hl V fun j j1 j2=>(hV j (by omega) (by omega)).trans (d4 j (by omega))⟩
theorem entS_ref (bb:Tok->Bool) (en:Int) (s:RS) (k:Int) (hk:64<k):(zbq bb en s k).2≠none:=by
 unfold zbq;simp only[hk,if_true]
 split
 ·exact zb8 en s
 ·intro e
  cases hs:s.2 <;> simp[zbv,hs]at e
theorem entS_66 (bb:Tok->Bool) (en:Int) (s:RS):zbq bb en s 66=zbq bb en s 65:=by
 unfold zbq;rw[if_pos (show(64:Int)<66 by decide),if_pos (show(64:Int)<65 by decide)]
theorem sigH_zero {b:Nat} {en:Int} {ts:List Tok} (hn:ts.length<=100000):SigH b en ts 64 0 (pTS en 0).2:=fun s w hs h=>by
 have hP:zcz b en ts 45 #[rp b,.int .i64 66] 0 (pTS en 0).1:=fun s2 w2 h2=>by
  have:=at_deep (d:=0) (deep:=66) (by decide) h2;rw[entS_66]at this;exact this
 have h':RqAt b en ts (meS en 65 s) w:=h;have SQ:=sig_q b en ts hn 0 (pTS en 0).1 (Takes.pTS en 0).1 66 hP _ w h';have E:=meE_deep (en:=en) (deep:=65) (p:=(pTS en 0).1) (Takes.pTS en 0).1 (by decide) s hs;refine SQ.mono fun e w' ⟨v,e1,r1,r2,r3⟩=>?_
 obtain⟨pp,cp,rfl,-,-⟩:=r3.slice;rw[E]at r1;exact⟨pp,_,cp,e1,r1,r2,fun hq=>absurd hq (entS_ref zdl en s 65 (by decide))⟩
theorem sigH_succ {b:Nat} {en deep:Int} {ts:List Tok} (hn:ts.length<=100000) (d:Nat) (hd:deep=63-(d:Int)) (hG:GT b en ts d):SigH b en ts deep (d+1) (pTS en (d+1)).2:=fun s w hs h=>by
 have e2:deep+2=65-(d:Int):=by omega
 have SQ:=sig_q b en ts hn d (pTS en d).1 (Takes.pTS en d).1 (65-(d:Int)) hG _ w h;obtain⟨E1,E2⟩:=meE (en:=en) (deep:=deep+1) (p:=(pTS en d).1) (Takes.pTS en d).1 (zf1 en d).1 (by omega) s hs;rw[e2];refine SQ.mono fun e w' ⟨v,e1,r1,r2,r3⟩=>?_
 obtain⟨pp,cp,rfl,-,-⟩:=r3.slice;rw[E1]at r1;refine⟨pp,_,cp,e1,r1,r2,fun hq V hV=>?_⟩;obtain⟨l,el,em⟩:=E2 hq;have hl:(sigR en (opt (pTS en d).1) (meS en (deep+1) s)).1.length=l.length:=by rw[em,List.length_map]
 rw[em]at r3;have q:=r3.some.types (V:=V) fun j j1 j2=>hV j (by omega) (by omega)
 rw[List.length_map]at q;rw[hl,show((pTS en (d+1)).2 s)=zco en (pTS en d).1 s from rfl,el];exact partsV q
theorem sigH_any {b:Nat} {en:Int} {ts:List Tok} (hn:ts.length<=100000) (d:Nat) (hG:∀e,d=e+1->GT b en ts e):SigH b en ts (64-(d:Int)) d (pTS en d).2:=by
 cases d with
 | zero=>exact sigH_zero hn
 | succ d=>exact sigH_succ hn d (by omega) (hG d rfl)
theorem ifa_gives {b:Nat} {en:Int} {ts:List Tok} (hn:ts.length<=100000):IfaGives b en ts:=fun d s w hd hx hk hS hG h=>by
 have hs:=h.nt;have SH:=sigH_any (b:=b) (en:=en) hn d hG;have TI:=typed_iface b en ts hn s (64-(d:Int)) (by omega) (by omega) hx hk hS d _ _ (fun w2 h2=>iface_q b en ts hn (64-(d:Int)) (by omega) (by omega) d (pTS en d).2 (Takes.pTS en d).2 SH (J7 s) w2 h2 _ rfl) w h;have E:=ifaE (en:=en) (Takes.pTS en d).2 (zf1 en d).2 (mz (Je en (J7 s) [123])+1) ((Je en (J7 s) [123]).1.length+1) [] [] [] (Je en (J7 s) [123]) (zbr (za4 hs) _) (Nat.lt_succ_self _) (Nat.lt_succ_self _);unfold tyA;rw[if_neg hk,if_neg (by rw[hS];decide),if_neg (by rw[hS];decide),if_neg (by rw[hS];decide),if_neg (by rw[hS];decide),if_neg (by rw[hS];decide),if_neg (by rw[hS];decide)];refine TI.mono fun x w' ⟨pn,pe,pp,nn,cn,ne,ce,np,cp,e1,r1,r2,r3⟩=>⟨8,_,pn,pe,pp,nn,cn,ne,ce,np,cp,e1,?_,r2,fun hq V hV=>?_⟩
 ·rw[E.1]at r1;exact r1
 ·have E2:=E.2 hq rfl;have:=r3 (zbs en (pTS en d).2 ((Je en (J7 s) [123]).1.length+1) [] [] (Je en (J7 s) [123])).1.2 (by rw[E2]) V hV;rw[E2]at this;exact this
theorem typed_any {b:Nat} {en:Int} {ts:List Tok} (hn:ts.length<=100000) (d:Nat) (hd:d<=65):GT b en ts d:=zeu hn (rec_gives hn) (ifa_gives hn) d d (Nat.le_refl _) hd
end Go.Proofs.YtdamlfkieecnjaaGreatDoor
