import Derived.Test.YtdamlfkieecnjaaGreatDoorQQIfaX
import Derived.Test.YtdamlfkieecnjaaGreatDoorQErrno
import Derived.Test.YtdamlfkieecnjaaGreatDoorQPTypeF
set_option maxHeartbeats 1000000
set_option maxRecDepth 100000
namespace Go.Proofs.YtdamlfkieecnjaaGreatDoor
open Lx
namespace Lx
theorem zcl:∀(f:Nat) (l:Bs) (i:Nat) (acc:Bs) (o:Nat),l.length<=f->textF l i acc=.inl o->o<=i+l.length
 | _,[],i,acc,o,_,h=>by rw[zey]at h;cases h;simp
 | 0,c::r,_,_,_,hf,_=>by simp at hf
 | f+1,c::r,i,acc,o,hf,h=>by
  simp only[List.length_cons]at hf ⊢;by_cases h34:c=34
  ·subst h34;rw[zcq]at h;cases h
  ·by_cases h92:c=92
   ·subst h92
    cases r with
    | nil=>rw[zef]at h;cases h;simp
    | cons d r'=>
     by_cases he:zbu (d.toNat:Int)=true
     ·rw[ze7 _ _ _ _ he]at h;have:=zcl f r' (i+2) _ o (by simp at hf;omega) h;simp;omega
     ·rw[zcw _ _ _ _ ((Bool.not_eq_true _).mp he)]at h
      cases h
      simp only[List.length_cons];omega
   ·by_cases hp:zae (c.toNat:Int)=true
    ·rw[zcm _ _ _ _ h34 h92 hp]at h;have:=zcl f r (i+1) _ o (by omega) h;omega
    ·rw[zbn _ _ _ _ h34 h92 ((Bool.not_eq_true _).mp hp)]at h
     cases h
     omega
theorem next_noP {l:Bs} {n o y:Nat} (hne:l≠[]) (h:next l n=.inl (o,y)):zdz y/\o<=l.length:=by
 unfold next at h
 split at h
 ·cases h;exact⟨by simp[zdz],by omega⟩
 ·split at h
  ·cases h;exact⟨by simp[zdz],by omega⟩
  ·unfold cut at h
   split at h
   ·unfold Jh at h
    split at h
    ·cases h;exact⟨by simp[zdz],by omega⟩
    ·split at h
     ·cases h;exact⟨by simp[zdz],by omega⟩
     ·cases h
   ·split at h
    ·unfold Jn at h
     split at h
     ·rename_i o' ho
      cases h
      obtain⟨c,t,rfl⟩:=List.exists_cons_of_ne_nil hne;have:=zcl _ t 1 [] o (Nat.le_refl _) ho;exact⟨by simp[zdz],by simp;omega⟩
     ·cases h
    ·split at h
     ·unfold JC at h
      split at h <;> cases h
     ·unfold Jv at h
      split at h
      ·rename_i hr
       cases h
       have:=zam Ji l.tail;exact⟨by simp[zdz],by rw[List.length_tail]at this;omega⟩
      ·cases h
theorem lexF_noP:∀(f:Nat) (l:Bs) (a n p y:Nat),(zdq f l a n).2=some (p,y)->zdz y/\p<=a+l.length
 | 0,l,a,n,p,y,h=>by simp[zdq]at h
 | f+1,l,a,n,p,y,h=>by
  rw[zdq]at h
  split at h
  ·cases h
  ·rename_i hne;have hs:=zck l;rcases hx:next (l.drop (skip l)) n with⟨o,z⟩|⟨k,s,v,m⟩
   ·rw[hx]at h;simp only[Option.some.injEq,Prod.mk.injEq]at h;have:=next_noP hne hx;rw[List.length_drop]at this;obtain⟨h1,rfl⟩:=h;exact⟨this.1,by omega⟩
   ·rw[hx]at h;have h2:=ze4 hne hx;have:=lexF_noP f _ _ _ p y h;rw[List.length_drop]at this h2;exact⟨this.1,by omega⟩
theorem lex_noP {l:Bs} {p y:Nat} (h:(lex l).2=some (p,y)):zdz y/\p<=l.length:=by
 rw[lex]at h
 split at h
 ·simp only[Option.some.injEq,Prod.mk.injEq]at h;obtain⟨rfl,rfl⟩:=h;exact⟨by simp[zdz],by omega⟩
 ·have:=lexF_noP _ _ _ _ _ _ h;exact⟨this.1,by omega⟩
theorem zdw:∀(f:Nat) (l:Bs) (a n:Nat) (t:Tok),t∈(zdq f l a n).1->t.1<=a+l.length
 | 0,l,a,n,t,h=>by simp[zdq]at h
 | f+1,l,a,n,t,h=>by
  rw[zdq]at h
  split at h
  ·simp at h
  ·rename_i hne;have hs:=zck l;rcases hx:next (l.drop (skip l)) n with⟨o,z⟩|⟨k,s,v,m⟩
   ·rw[hx]at h;simp at h
   ·rw[hx]at h;have h2:=ze4 hne hx;simp only[List.mem_cons]at h;rcases h with rfl|h
    ·show a+skip l<=_;omega
    ·have:=zdw f _ _ _ t h;rw[List.length_drop]at this h2;omega
theorem lex_at_most {l:Bs} {t:Tok} (h:t∈(lex l).1):t.1<=l.length:=by
 rw[lex]at h
 split at h
 ·simp at h
 ·have:=zdw _ _ _ _ _ h;omega
end Lx
def ParNo (y:Nat):Prop:=zdz y∨y=13∨y=14∨y=15∨y=20
def Rg (n:Nat) (s:RS):Prop:=(∀t∈s.1,t.1<=n)/\∀r,s.2=some r->∃p y:Nat,r=((p:Int),(y:Int))/\ParNo y/\p<=n
def Rgs (n:Nat) {α:Type} (p:RS->α×RS):Prop:=∀s,Rg n s->Rg n (p s).2
section
variable {s:RS} {n:Nat}
theorem zbo (h:Rg n s):Rg n (J7 s):=⟨fun t ht=>h.1 t (List.mem_of_mem_tail ht),h.2⟩
theorem rRef_rg (h:Rg n s) {a y:Nat} (ha:a<=n) (hy:ParNo y):Rg n (zbv s (a:Int) (y:Int)):=by
 refine⟨fun t ht=>by simp[zbv]at ht,fun r hr=>?_⟩;obtain rfl:s.2.getD ((a:Int),(y:Int))=r:=Option.some.inj hr
 cases hs:s.2 with
 | none=>exact⟨a,y,rfl,hy,ha⟩
 | some r=>exact h.2 r hs
theorem rPeek_rg (h:Rg n s):(J5 s).1<=n:=by
 unfold J5
 cases hs:s.1 with
 | nil=>exact Nat.zero_le _
 | cons t l=>exact h.1 t (by rw[hs];exact List.mem_cons_self)
theorem zb0 (h:Rg n s):Rg n (Jb (n:Int) s):=by
 unfold Jb
 split
 ·exact rRef_rg (y:=14) h (Nat.le_refl _) (by simp[ParNo])
 ·rename_i t l hs;exact rRef_rg (y:=13) h (h.1 t (by rw[hs];exact List.mem_cons_self)) (by simp[ParNo])
theorem accS_rg (h:Rg n s) (m:Bs):Rg n (zb4 s m):=by
 unfold zb4;split
 ·exact zbo h
 ·exact h
theorem ze1 (h:Rg n s) (m:Bs):Rg n (Je (n:Int) s m):=by
 unfold Je;split
 ·exact zbo h
 ·exact zb0 h
theorem kindS_rg (h:Rg n s) (k:Int):Rg n (JX (n:Int) s k):=by
 unfold JX;split
 ·exact zbo h
 ·exact zb0 h
theorem newS_rg (h:Rg n s) (l:List Bs):Rg n (newS (n:Int) s l):=by
 unfold newS;split
 ·refine rRef_rg (y:=20) (kindS_rg h 1) ?_ (by simp[ParNo]);unfold JF
  split
  ·exact rPeek_rg h
  ·exact Nat.zero_le _
 ·exact kindS_rg h 1
theorem openS_rg (h:Rg n s):Rg n (zb5 (n:Int) s):=by
 unfold zb5;split
 ·exact zb0 h
 ·exact h
theorem zdb (h:Rg n s) (m:Bs):Rg n (Ju (n:Int) s m):=accS_rg (openS_rg h) m
theorem entS_rg (h:Rg n s) (b:Tok->Bool) (k:Int):Rg n (zbq b (n:Int) s k):=by
 unfold zbq;split
 ·exact zb0 h
 ·split
  ·exact rRef_rg (y:=15) h (rPeek_rg h) (by simp[ParNo])
  ·exact h
variable {n:Nat}
theorem commasF_rg {α:Type} {thing:α->RS->α×RS} (h:∀a,Rgs n (thing a)):∀(f:Nat) (a:α),Rgs n (Jl thing f a)
 | 0,_=>fun _ e=>e
 | f+1,a=>fun s e=>by
  rw[Jl];split
  ·exact commasF_rg h f _ _ (h a _ (zbo e))
  ·exact e
theorem commasP_rg {α:Type} {m:Bs} {thing:α->RS->α×RS} (h:∀a,Rgs n (thing a)) (a:α):Rgs n (Jj (n:Int) m thing a):=fun s e=>by
 rw[Jj];split
 ·exact zbo e
 ·exact ze1 (commasF_rg h _ _ _ (h a _ e)) _
theorem recF_rg {α:Type} {p:RS->α×RS} (h:Rgs n p):∀(f:Nat) (es:List Bool) (ns:List Bs) (ps:List α),Rgs n (zb7 (n:Int) p f es ns ps)
 | 0,_,_,_=>fun _ e=>e
 | f+1,es,ns,ps=>fun s e=>by
  rw[zb7];split
  ·exact zdb e _
  ·exact recF_rg h f _ _ _ _ (ze1 (h _ (newS_rg (accS_rg (zdb e _) _) _)) _)
theorem ifaF_rg {α:Type} {p:RS->α×RS} (h:Rgs n p):∀(f:Nat) (ns:List Bs) (ps:List α),Rgs n (zbs (n:Int) p f ns ps)
 | 0,_,_=>fun _ e=>e
 | f+1,ns,ps=>fun s e=>by
  rw[zbs];split
  ·exact zdb e _
  ·exact ifaF_rg h f _ _ _ (ze1 (h _ (newS_rg (zdb e _) _)) _)
theorem onto_rg {α:Type} {p:RS->α×RS} (h:Rgs n p) (a:List α):Rgs n (zad p a):=fun s e=>h s e
theorem sigP_rg {α:Type} {p:RS->α×RS} (h:Rgs n p):Rgs n (sigP (n:Int) p):=fun s e=>h _ (commasP_rg (onto_rg h) _ s e)
theorem sigA_rg {d:Nat} {p:RS->Ty d×RS} (h:Rgs n p):Rgs n (zco (n:Int) p):=fun s e=>by
 unfold zco;split
 ·exact sigP_rg h _ (zbo e)
 ·exact zb0 e
theorem tyA_rg {d:Nat} {p g:RS->Ty d×RS} (h:Rgs n p) (k:Rgs n g) (t:Tok):Rgs n (tyA (n:Int) p g t):=fun s e=>by
 unfold tyA
 split;· exact e
 split;· exact e
 split;· exact e
 split;· exact e
 split;· exact h s e
 split;· exact recF_rg h _ _ _ _ _ e
 split;· exact sigA_rg h s e
 exact ifaF_rg k _ _ _ _ (ze1 e _)
theorem pTS_rg:∀d,Rgs n (pTS (n:Int) d).1/\Rgs n (pTS (n:Int) d).2
 | 0=>⟨fun s e=>entS_rg e _ _,fun s e=>entS_rg e _ _⟩
 | d+1=>⟨fun s e=>by
   show Rg n (if za2 (J5 s)=true then tyA (n:Int) (pTS (n:Int) d).1 (pTS (n:Int) d).2 (J5 s) (J7 s)else(zTy (d+1),Jb (n:Int) s)).2
   split
   ·exact tyA_rg (pTS_rg d).1 (pTS_rg d).2 _ _ (zbo e)
   ·exact zb0 e,sigA_rg (pTS_rg d).1⟩
end
theorem finS_rg {n:Nat} {s:RS} (h:Rg n s):Rg n (finS (n:Int) s):=by
 unfold finS;split
 ·exact zb0 h
 ·exact h
theorem pType_no {l:Bs} {r:Int×Int} (h:(zby l).1=some r):∃p y:Nat,r=((p:Int),(y:Int))/\ParNo y/\p<=l.length:=by
 unfold zby at h
 cases hx:(lex l).2 with
 | some q=>
  obtain⟨a,y⟩:=q;rw[hx]at h;obtain rfl:=Option.some.inj h;have:=lex_noP hx;exact⟨a,y,rfl,.inl this.1,this.2⟩
 | none=>
  rw[hx]at h;exact(finS_rg ((pTS_rg 64).1 ((lex l).1,none) ⟨fun t ht=>lex_at_most ht,fun r hr=>by cases hr⟩)).2 r h
end Go.Proofs.YtdamlfkieecnjaaGreatDoor
namespace Go.Proofs.YtdamlfkieecnjaaGreatDoor
open Go Go.RowKit
theorem Errno_13 (w:World):Calls Tryz.prog 104 #[.int .i64 13] w fun e w'=>(∃s:ByteArray,s.size<=100/\e=.returned (.string s))/\Below w.heap.size w w':=by
 obtain⟨i0,hi,hz0,hz1,hz2⟩:=info_parts (show(Tryz.prog.info? 5).map (fun i=>(i.zero,i.size,i.bytes))=some (some (.int .u8 0),1,1) by kernel_rfl);have hown:((w.alloc (.cells #[.int .u8 51] 5)).alloc (.cells #[.int .u8 49] 5)).ownsRow w.heap.size 5 1 (.slice (some ⟨w.heap.size+1,0,none⟩) 1 1) 1 [.int .u8 49]:=
  ⟨rfl,.inr ⟨w.heap.size+1,1,#[.int .u8 49],rfl,by omega,JA _ _ _,Nat.le_refl _,by unfold maxLen;omega,rfl,rfl⟩⟩
 go_enter Tryz.func104,Tryz.ntmps104;go_wp2;refine wp_loop_rounds 3 ?_;rw[rounds_succ];go_wp2;rw[rounds_succ];go_wp2_with (at_builtin;refine wpList_append_own _ rfl _ _ 245 rfl w.heap.size 5 i0 (.int .u8 0) 1 1 Tryz.underlying245 hi hz0 hz1 hz2 rfl (by decide) _ _ _ rfl hown ⟨w.heap.size,0,none⟩ 1 1 [.int .u8 51] rfl rfl ?c1 ?c2 ?c3 ?c4 ?c5 ?_)
 case c1=>
  intro j u hj
  match j,hj with
  | 0,hj=>simp at hj;subst hj;simp[Addr.add]
 case c2=>intro u hu;simp at hu;subst hu;rfl
 case c3=>unfold maxLen;omega
 case c4=>omega
 case c5=>simp;omega
 intro v' w1 hown' hgrow _;obtain⟨g,cap,rfl⟩:=ownsRow_succ hown';have cv:=run_convert_bytes_back (P:=Tryz.prog) w1 245 9 5 ⟨g,0,none⟩ cap [49,51] Tryz.underlying245 Tryz.underlying5 Tryz.underlying9 (by
  intro j hj;have:=hown'.cells (g:=g) rfl j
  match j,hj with
  | 0,_=>exact this _ rfl
  | 1,_=>exact this _ rfl)
 simp only[List.length_cons,List.length_nil]at cv;go_wp2;rw[rounds_succ];go_wp2;go_ret;exact⟨⟨_,by decide,rfl⟩,(za7 w _ _).grown hgrow (by simp;omega) (fun k e=>by cases e;exact Nat.le_succ _)⟩
theorem Errno_14 (w:World):Calls Tryz.prog 104 #[.int .i64 14] w fun e w'=>(∃s:ByteArray,s.size<=100/\e=.returned (.string s))/\Below w.heap.size w w':=by
 obtain⟨i0,hi,hz0,hz1,hz2⟩:=info_parts (show(Tryz.prog.info? 5).map (fun i=>(i.zero,i.size,i.bytes))=some (some (.int .u8 0),1,1) by kernel_rfl);have hown:((w.alloc (.cells #[.int .u8 52] 5)).alloc (.cells #[.int .u8 49] 5)).ownsRow w.heap.size 5 1 (.slice (some ⟨w.heap.size+1,0,none⟩) 1 1) 1 [.int .u8 49]:=
  ⟨rfl,.inr ⟨w.heap.size+1,1,#[.int .u8 49],rfl,by omega,JA _ _ _,Nat.le_refl _,by unfold maxLen;omega,rfl,rfl⟩⟩
 go_enter Tryz.func104,Tryz.ntmps104;go_wp2;refine wp_loop_rounds 3 ?_;rw[rounds_succ];go_wp2;rw[rounds_succ];go_wp2_with (at_builtin;refine wpList_append_own _ rfl _ _ 245 rfl w.heap.size 5 i0 (.int .u8 0) 1 1 Tryz.underlying245 hi hz0 hz1 hz2 rfl (by decide) _ _ _ rfl hown ⟨w.heap.size,0,none⟩ 1 1 [.int .u8 52] rfl rfl ?c1 ?c2 ?c3 ?c4 ?c5 ?_)
 case c1=>
  intro j u hj
  match j,hj with
  | 0,hj=>simp at hj;subst hj;simp[Addr.add]
 case c2=>intro u hu;simp at hu;subst hu;rfl
 case c3=>unfold maxLen;omega
 case c4=>omega
 case c5=>simp;omega
 intro v' w1 hown' hgrow _;obtain⟨g,cap,rfl⟩:=ownsRow_succ hown';have cv:=run_convert_bytes_back (P:=Tryz.prog) w1 245 9 5 ⟨g,0,none⟩ cap [49,52] Tryz.underlying245 Tryz.underlying5 Tryz.underlying9 (by
  intro j hj;have:=hown'.cells (g:=g) rfl j
  match j,hj with
  | 0,_=>exact this _ rfl
  | 1,_=>exact this _ rfl)
 simp only[List.length_cons,List.length_nil]at cv;go_wp2;rw[rounds_succ];go_wp2;go_ret;exact⟨⟨_,by decide,rfl⟩,(za7 w _ _).grown hgrow (by simp;omega) (fun k e=>by cases e;exact Nat.le_succ _)⟩
theorem Errno_15 (w:World):Calls Tryz.prog 104 #[.int .i64 15] w fun e w'=>(∃s:ByteArray,s.size<=100/\e=.returned (.string s))/\Below w.heap.size w w':=by
 obtain⟨i0,hi,hz0,hz1,hz2⟩:=info_parts (show(Tryz.prog.info? 5).map (fun i=>(i.zero,i.size,i.bytes))=some (some (.int .u8 0),1,1) by kernel_rfl);have hown:((w.alloc (.cells #[.int .u8 53] 5)).alloc (.cells #[.int .u8 49] 5)).ownsRow w.heap.size 5 1 (.slice (some ⟨w.heap.size+1,0,none⟩) 1 1) 1 [.int .u8 49]:=
  ⟨rfl,.inr ⟨w.heap.size+1,1,#[.int .u8 49],rfl,by omega,JA _ _ _,Nat.le_refl _,by unfold maxLen;omega,rfl,rfl⟩⟩
 go_enter Tryz.func104,Tryz.ntmps104;go_wp2;refine wp_loop_rounds 3 ?_;rw[rounds_succ];go_wp2;rw[rounds_succ];go_wp2_with (at_builtin;refine wpList_append_own _ rfl _ _ 245 rfl w.heap.size 5 i0 (.int .u8 0) 1 1 Tryz.underlying245 hi hz0 hz1 hz2 rfl (by decide) _ _ _ rfl hown ⟨w.heap.size,0,none⟩ 1 1 [.int .u8 53] rfl rfl ?c1 ?c2 ?c3 ?c4 ?c5 ?_)
 case c1=>
  intro j u hj
  match j,hj with
  | 0,hj=>simp at hj;subst hj;simp[Addr.add]
 case c2=>intro u hu;simp at hu;subst hu;rfl
 case c3=>unfold maxLen;omega
 case c4=>omega
 case c5=>simp;omega
 intro v' w1 hown' hgrow _;obtain⟨g,cap,rfl⟩:=ownsRow_succ hown';have cv:=run_convert_bytes_back (P:=Tryz.prog) w1 245 9 5 ⟨g,0,none⟩ cap [49,53] Tryz.underlying245 Tryz.underlying5 Tryz.underlying9 (by
  intro j hj;have:=hown'.cells (g:=g) rfl j
  match j,hj with
  | 0,_=>exact this _ rfl
  | 1,_=>exact this _ rfl)
 simp only[List.length_cons,List.length_nil]at cv;go_wp2;rw[rounds_succ];go_wp2;go_ret;exact⟨⟨_,by decide,rfl⟩,(za7 w _ _).grown hgrow (by simp;omega) (fun k e=>by cases e;exact Nat.le_succ _)⟩
theorem Errno_20 (w:World):Calls Tryz.prog 104 #[.int .i64 20] w fun e w'=>(∃s:ByteArray,s.size<=100/\e=.returned (.string s))/\Below w.heap.size w w':=by
 obtain⟨i0,hi,hz0,hz1,hz2⟩:=info_parts (show(Tryz.prog.info? 5).map (fun i=>(i.zero,i.size,i.bytes))=some (some (.int .u8 0),1,1) by kernel_rfl);have hown:((w.alloc (.cells #[.int .u8 48] 5)).alloc (.cells #[.int .u8 50] 5)).ownsRow w.heap.size 5 1 (.slice (some ⟨w.heap.size+1,0,none⟩) 1 1) 1 [.int .u8 50]:=
  ⟨rfl,.inr ⟨w.heap.size+1,1,#[.int .u8 50],rfl,by omega,JA _ _ _,Nat.le_refl _,by unfold maxLen;omega,rfl,rfl⟩⟩
 go_enter Tryz.func104,Tryz.ntmps104;go_wp2;refine wp_loop_rounds 3 ?_;rw[rounds_succ];go_wp2;rw[rounds_succ];go_wp2_with (at_builtin;refine wpList_append_own _ rfl _ _ 245 rfl w.heap.size 5 i0 (.int .u8 0) 1 1 Tryz.underlying245 hi hz0 hz1 hz2 rfl (by decide) _ _ _ rfl hown ⟨w.heap.size,0,none⟩ 1 1 [.int .u8 48] rfl rfl ?c1 ?c2 ?c3 ?c4 ?c5 ?_)
 case c1=>
  intro j u hj
  match j,hj with
  | 0,hj=>simp at hj;subst hj;simp[Addr.add]
 case c2=>intro u hu;simp at hu;subst hu;rfl
 case c3=>unfold maxLen;omega
 case c4=>omega
 case c5=>simp;omega
 intro v' w1 hown' hgrow _;obtain⟨g,cap,rfl⟩:=ownsRow_succ hown';have cv:=run_convert_bytes_back (P:=Tryz.prog) w1 245 9 5 ⟨g,0,none⟩ cap [50,48] Tryz.underlying245 Tryz.underlying5 Tryz.underlying9 (by
  intro j hj;have:=hown'.cells (g:=g) rfl j
  match j,hj with
  | 0,_=>exact this _ rfl
  | 1,_=>exact this _ rfl)
 simp only[List.length_cons,List.length_nil]at cv;go_wp2;rw[rounds_succ];go_wp2;go_ret;exact⟨⟨_,by decide,rfl⟩,(za7 w _ _).grown hgrow (by simp;omega) (fun k e=>by cases e;exact Nat.le_succ _)⟩
theorem ErrnoP_any (y:Nat) (hy:ParNo y) (w:World):Calls Tryz.prog 104 #[.int .i64 (y:Int)] w fun e w'=>(∃s:ByteArray,s.size<=100/\e=.returned (.string s))/\Below w.heap.size w w':=by
 rcases hy with hy|rfl|rfl|rfl|rfl
 ·exact Errno_any y hy w
 ·exact Errno_13 w
 ·exact Errno_14 w
 ·exact Errno_15 w
 ·exact Errno_20 w
end Go.Proofs.YtdamlfkieecnjaaGreatDoor
