import Derived.Test.YtdamlfkieecnjaaGreatDoorQPRow
import Derived.Test.YtdamlfkieecnjaaGreatDoorQPTypes
set_option maxHeartbeats 1000000
set_option maxRecDepth 100000
namespace Go.Proofs.YtdamlfkieecnjaaGreatDoor
open Go Go.RowKit Lx
def zap (s:RS):Bool:=!s.1.isEmpty
theorem RdAt.open {b:Nat} {T:TypeId} {en:Int} {s:RS} {W:World} (h:RdAt b T en s W):∃(p:Option Addr) (c:Nat) (q:Value),W.heap[b]?=some (.cells #[.slice p s.1.length c,.int .i64 en,q] T)/\s.1.length<=c/\c<=9223372036854775807/\s.1.length<=100000/\TkAt b W (.slice p s.1.length c) s.1/\RfAt b W q s.2:=by
 obtain⟨v,q,h1,h2,h3⟩:=h;obtain⟨p,c,rfl,h4,h5⟩:=h2.2.1;exact⟨p,c,q,h1,h4,h5,h2.1,h2,h3⟩
theorem box3 {W:World} {b:Nat} {T:TypeId} {x y z:Value} (h:W.heap[b]?=some (.cells #[x,y,z] T)):(W.cell? ⟨b,0,none⟩=some x/\W.cell? ⟨b,1,none⟩=some y/\W.cell? ⟨b,2,none⟩=some z)/\∀i,W.frozen? ⟨b,i,none⟩=false:=
 ⟨⟨(Lib.cell_of_heap h 0).trans rfl,(Lib.cell_of_heap h 1).trans rfl,(Lib.cell_of_heap h 2).trans rfl⟩,fun i=>Lib.frozen_of_heap h i⟩
theorem TkAt.first {b:Nat} {W:World} {p:Option Addr} {n c:Nat} {t:Tok} {ts:List Tok} (h:TkAt b W (.slice p n c) (t::ts)):∃g o,p=some ⟨g,o,none⟩/\W.cell? ⟨g,o,none⟩=some (.int .i64 (t.1:Int))/\W.cell? ⟨g,o+1,none⟩=some (.int .i64 t.2.1)/\W.cell? ⟨g,o+2,none⟩=some (.string ⟨t.2.2.1.toArray⟩)/\W.cell? ⟨g,o+3,none⟩=some (.int .i64 t.2.2.2):=by
 obtain⟨p',c',e,hp⟩:=h.here;injection e with e1 _ _
 subst e1;obtain⟨g,o,rfl,a0,a1,a2,a3⟩:=hp 0 t rfl;simp only[Nat.zero_mul,Nat.add_zero]at a0 a1 a2 a3;exact⟨g,o,rfl,a0,a1,a2,a3⟩
theorem TkAt.rest {b:Nat} {W W':World} {g o n c:Nat} {p:Option Addr} {t:Tok} {ts:List Tok} (h:TkAt b W (.slice (some ⟨g,o,none⟩) n c) (t::ts)) (hx:Kx b W W') (hp:p=some ⟨g,o+4,none⟩∨ts=[]):TkAt b W' (.slice p ts.length (c-1)) ts:=by
 obtain⟨h1,⟨p0,c0,e0,h2,h3⟩,h4⟩:=h.kept hx;injection e0 with e1 e2 e3
 subst e3;simp only[List.length_cons]at h1 h2;refine⟨by omega,⟨p,c-1,rfl,by omega,by omega⟩,fun V hV=>⟨p,c-1,rfl,fun j u hu=>?_⟩⟩;rcases hp with rfl|rfl
 ·obtain⟨p',c',e,hp⟩:=h4 V hV;injection e with e1 _ _
  obtain⟨g',o',e',a0,a1,a2,a3⟩:=hp (j+1) u (by simpa using hu);obtain⟨rfl,rfl⟩:g=g'/\o=o':=by rw[<-e1]at e';simpa using e'
  refine⟨g,o+4,rfl,?_,?_,?_,?_⟩
  ·rw[show o+4+j*4=o+(j+1)*4 by omega];exact a0
  ·rw[show o+4+j*4+1=o+(j+1)*4+1 by omega];exact a1
  ·rw[show o+4+j*4+2=o+(j+1)*4+2 by omega];exact a2
  ·rw[show o+4+j*4+3=o+(j+1)*4+3 by omega];exact a3
 ·simp at hu
theorem Ja {W:World} {b i:Nat} {c:Array Value} {t:TypeId} {fz:Nat×Nat} (h:W.heap[b]?=some (.cells c t fz)) (v:Value):(W.setCell ⟨b,i,none⟩ v).heap[b]?=some (.cells (c.setIfInBounds i v) t fz):=by
 simp[World.setCell,Array.getElem?_modify,h]
abbrev tkO:Obj:=.cells #[.int .i64 0,.int .i64 0,.string ⟨#[]⟩,.int .i64 0] 174
theorem zcd (b:Nat) (T:TypeId) (en:Int) (s:RS) (w:World) (h:RdAt b T en s w):Calls Tryz.prog 84 #[rp b] w fun e w'=>e=.returned (.bool (zap s))/\w=w':=by
 obtain⟨p,c,q,hb,h1,h2,h3,-,-⟩:=h.open;obtain⟨⟨c0,-,-⟩,-⟩:=box3 hb;have HL:Hid (zap s=decide ((0:Int)<s.1.length)):=by
  show _=_
  cases hs:s.1 <;> simp[zap,hs]
 obtain⟨n,hn⟩:∃n,n=s.1.length:=⟨_,rfl⟩
 rw[<-hn]at c0 h1 h3 HL;clear h hb hn;by_cases h0:(0:Int)<n
 all_goals
  go_enter Tryz.func84,Tryz.ntmps84;go_wp2;go_ret;exact⟨by rw[J0 HL];simp,rfl⟩
theorem zd1 (b:Nat) (T:TypeId) (en:Int) (s:RS) (w:World) (h:RdAt b T en s w):Calls Tryz.prog 116 #[rp b] w fun e w'=>e=.returned (zcx (J5 s))/\Below w.heap.size w w':=by
 obtain⟨p,c,q,hb,h1,h2,h3,ht,-⟩:=h.open;obtain⟨⟨c0,-,-⟩,-⟩:=box3 hb;have hl:=h.lt;have LF:=J4 (zcd b T en s _ (h.alloc tkO));clear h hb;rcases hs:s.1 with _|⟨t,ts⟩
 ·have HP:Hid (J5 s=(0,0,[],0)):=by show _=_;simp[J5,hs]
  have hL:zap s=false:=by simp[zap,hs]
  rw[hL]at LF;clear hL hs ht;go_enter Tryz.func116,Tryz.ntmps116;go_wp2_with (go_at_call 84;refine(J0 LF).mono ?_;clear LF;rintro e w1 ⟨rfl,rfl⟩);exact bodyPost_ret (v:=zcx (0,0,[],0)) (by simp[results,Tryz.results116,go_sem]) rfl ⟨by rw[J0 HP],(Below.refl _ _).alloc (Nat.le_refl _) _⟩
 ·have HP:Hid (J5 s=t):=by show _=_;simp[J5,hs]
  have hL:zap s=true:=by simp[zap,hs]
  rw[hs]at ht c0;obtain⟨g,o,rfl,a0,a1,a2,a3⟩:=ht.first;have hg:=za9 a0;rw[hL]at LF;clear hL hs ht h1 h3;go_enter Tryz.func116,Tryz.ntmps116;go_wp2_with (go_at_call 84;refine(J0 LF).mono ?_;clear LF;rintro e w1 ⟨rfl,rfl⟩);exact bodyPost_ret (v:=zcx t) (by simp[results,Tryz.results116,go_sem]) rfl ⟨by rw[J0 HP],(Below.refl _ _).alloc (Nat.le_refl _) _⟩
end Go.Proofs.YtdamlfkieecnjaaGreatDoor
namespace Go.Proofs.YtdamlfkieecnjaaGreatDoor
namespace Lx
theorem lexF_most:∀(f:Nat) (l:Bs) (a n:Nat),n<=4096->(zdq f l a n).1.length+n<=4096
 | 0,l,a,n,h=>by simp[zdq];exact h
 | f+1,l,a,n,h=>by
  rw[zdq]
  split
  ·simpa using h
  ·rcases hx:next (l.drop (skip l)) n with⟨o,z⟩|⟨k,s,v,m⟩
   ·simpa using h
   ·have h2:=next_few hx;have:=lexF_most f (l.drop (skip l+m)) (a+skip l+m) (n+1) (by omega);simp only[List.length_cons];omega
theorem lex_most (l:Bs):(lex l).1.length<=4096:=by
 rw[lex]
 split
 ·simp
 ·exact lexF_most _ _ _ 0 (by omega)
end Lx
open Go Go.RowKit Lx
theorem pcells_at:∀(ts:List Tok) (j:Nat) (t:Tok) (i:Nat) (u:Value),ts[j]?=some t->(Jm t)[i]?=some u->(Jg ts)[j*4+i]?=some u
 | [],j,t,i,u,h,_=>by simp at h
 | x::r,0,t,i,u,h,hu=>by
  simp at h;subst h;have hi:i<(Jm x).length:=(List.getElem?_eq_some_iff.1 hu).1;show(Jm x++Jg r)[0*4+i]?=some u;rw[show 0*4+i=i from by omega,List.getElem?_append_left hi];exact hu
 | x::r,j+1,t,i,u,h,hu=>by
  have ih:=pcells_at r j t i u (by simpa using h) hu;show(Jm x++Jg r)[(j+1)*4+i]?=some u;rw[List.getElem?_append_right (by simp[Jm];omega)];rw[show(j+1)*4+i-(Jm x).length=j*4+i from by simp[Jm];omega];exact ih
theorem TkAt.of_owns {W:World} {base b:Nat} {v:Value} {ts:List Tok} (h:W.ownsRow base 174 4 v ts.length (Jg ts)) (hn:ts.length<=100000) (hb:W.heap.size<=b):TkAt b W v ts:=by
 rcases h.2 with⟨rfl,h0⟩|⟨g,cap,cur,rfl,hg,r⟩
 ·have hts:=List.eq_nil_of_length_eq_zero h0;subst hts;exact TkAt.nil b W
 ·obtain⟨r1,r2,r3,r4,r5⟩:=r;have hm:cap<=9223372036854775807:=Nat.le_trans r3 (by decide);refine⟨hn,⟨_,_,rfl,r2,hm⟩,fun V hV=>⟨some ⟨g,0,none⟩,cap,rfl,fun j t ht=>?_⟩⟩;have hg2:g<W.heap.size:=(Array.getElem?_eq_some_iff.1 r1).1;have hVg:V.heap[g]?=some (.cells cur 174 (0,0)):=(hV g (by omega)).trans r1;have at_:∀i u,(Jm t)[i]?=some u->V.cell? ⟨g,j*4+i,none⟩=some u:=fun i u hu=>by
   have h1:=pcells_at ts j t i u ht hu;rw[<-r5,List.getElem?_take]at h1
   split at h1
   ·rw[Lib.cell_of_heap hVg];simpa using h1
   ·cases h1
  refine⟨g,0,rfl,?_,?_,?_,?_⟩
  ·have:=at_ 0 _ rfl;simpa using this
  ·have:=at_ 1 _ rfl;simpa using this
  ·have:=at_ 2 _ rfl;simpa using this
  ·have:=at_ 3 _ rfl;simpa using this
theorem toks_yes (src:ByteArray) (hs:src.size<=140737488355328) (hx:(lex src.data.toList).2=none) (w:World):Calls Tryz.prog 83 #[.string src] w fun e w'=>∃p c,e=.returned (.tuple #[.slice p (lex src.data.toList).1.length c,.nilIface])/\(∀b,w'.heap.size<=b->TkAt b w' (.slice p (lex src.data.toList).1.length c) (lex src.data.toList).1)/\Below w.heap.size w w':=by
 refine(Tokens_any src hs w).mono ?_;rintro e w' ⟨hb,h⟩;rw[hx]at h;obtain⟨v,rfl,ho⟩:=h;have ho:w'.ownsRow w.heap.size 174 4 v (lex src.data.toList).1.length (Jg (lex src.data.toList).1):=ho;have hm:=Lx.lex_most src.data.toList;have hk:=fun b hb=>TkAt.of_owns (b:=b) ho (by omega) hb
 obtain⟨-,⟨p,c,e,-,-⟩,-⟩:=hk _ (Nat.le_refl _);subst e;exact⟨p,c,rfl,hk,hb⟩
theorem toks_no (src:ByteArray) (a y:Nat) (hs:src.size<=140737488355328) (hx:(lex src.data.toList).2=some (a,y)) (w:World):Calls Tryz.prog 83 #[.string src] w fun e w'=>∃k,e=.returned (.tuple #[.slice none 0 0,.iface 94 (.pointer (some ⟨k,0,none⟩))])/\w'.heap[k]?=some (.cells #[.int .i64 (a:Int),.int .i64 (y:Int)] 114)/\w.heap.size<=k/\Below w.heap.size w w':=by
 refine(Tokens_any src hs w).mono ?_;rintro e w' ⟨hb,h⟩;rw[hx]at h;obtain⟨k,rfl,h1,h2⟩:=h;exact⟨k,rfl,h2,h1,hb⟩
end Go.Proofs.YtdamlfkieecnjaaGreatDoor
