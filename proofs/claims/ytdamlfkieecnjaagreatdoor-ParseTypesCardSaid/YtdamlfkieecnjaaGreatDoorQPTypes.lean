import Derived.Test.YtdamlfkieecnjaaGreatDoorQPSpec
import Derived.Laws.StructEq
import Derived.RegionTactic
import Derived.Maps.OwnSet

namespace Go.Proofs.YtdamlfkieecnjaaGreatDoor
open Go Go.RowKit Lx
def Ty:Nat->Type
 | 0=>Empty
 | d+1=>Int×Bs×List Bs×List Bool×List (Ty d)
def SRow (W:World) (v:Value) (ss:List Bs):Prop:=
 ∃(p:Option Addr) (c:Nat),v=.slice p ss.length c/\∀j t,ss[j]?=some t->∃g o,p=some ⟨g,o,none⟩/\W.cell? ⟨g,o+j,none⟩=some (.string ⟨t.toArray⟩)
def BRow (W:World) (v:Value) (bs:List Bool):Prop:=
 ∃(p:Option Addr) (c:Nat),v=.slice p bs.length c/\∀j t,bs[j]?=some t->∃g o,p=some ⟨g,o,none⟩/\W.cell? ⟨g,o+j,none⟩=some (.bool t)
def TyRow (W:World):(d:Nat)->Value->List (Ty d)->Prop
 | 0,v,_=>∃(p:Option Addr) (c:Nat),v=.slice p 0 c
 | d+1,v,ts=>∃(p:Option Addr) (c:Nat),v=.slice p ts.length c/\∀j t,ts[j]?=some t->∃(g o:Nat) (vn ve vp:Value),p=some ⟨g,o,none⟩ /\
   W.cell? ⟨g,o+j*5,none⟩=some (.int .i64 t.1)/\W.cell? ⟨g,o+j*5+1,none⟩=some (.string ⟨t.2.1.toArray⟩) /\
   W.cell? ⟨g,o+j*5+2,none⟩=some vn/\W.cell? ⟨g,o+j*5+3,none⟩=some ve/\W.cell? ⟨g,o+j*5+4,none⟩=some vp /\
   SRow W vn t.2.2.1/\BRow W ve t.2.2.2.1/\TyRow W d vp t.2.2.2.2
theorem za9 {w:World} {b o:Nat} {v:Value} (h:w.cell? ⟨b,o,none⟩=some v):b<w.heap.size:=by
 rcases Nat.lt_or_ge b w.heap.size with h' | h'
 ·exact h'
 ·simp[World.cell?,Array.getElem?_eq_none h']at h
theorem SRow.below {w w':World} {v:Value} {ss:List Bs} (h:SRow w v ss) (hb:Below w.heap.size w w'):SRow w' v ss:=by
 obtain⟨p,c,rfl,hp⟩:=h;refine⟨p,c,rfl,fun j t ht=>?_⟩;obtain⟨g,o,rfl,a0⟩:=hp j t ht;exact⟨g,o,rfl,(hb.cell (p:=⟨g,_,none⟩) (za9 a0)).trans a0⟩
theorem BRow.below {w w':World} {v:Value} {ss:List Bool} (h:BRow w v ss) (hb:Below w.heap.size w w'):BRow w' v ss:=by
 obtain⟨p,c,rfl,hp⟩:=h;refine⟨p,c,rfl,fun j t ht=>?_⟩;obtain⟨g,o,rfl,a0⟩:=hp j t ht;exact⟨g,o,rfl,(hb.cell (p:=⟨g,_,none⟩) (za9 a0)).trans a0⟩
theorem TyRow.below {w w':World} (hb:Below w.heap.size w w'):∀(d:Nat) {v:Value} {ts:List (Ty d)},TyRow w d v ts->TyRow w' d v ts
 | 0,_,_,h=>h
 | d+1,v,ts,h=>by
  obtain⟨p,c,rfl,hp⟩:=h;refine⟨p,c,rfl,fun j t ht=>?_⟩;obtain⟨g,o,vn,ve,vp,rfl,a0,a1,a2,a3,a4,r1,r2,r3⟩:=hp j t ht;have hg:=za9 a0;exact⟨g,o,vn,ve,vp,rfl,(hb.cell (p:=⟨g,_,none⟩) hg).trans a0,(hb.cell (p:=⟨g,_,none⟩) hg).trans a1,(hb.cell (p:=⟨g,_,none⟩) hg).trans a2,(hb.cell (p:=⟨g,_,none⟩) hg).trans a3,(hb.cell (p:=⟨g,_,none⟩) hg).trans a4,r1.below hb,r2.below hb,TyRow.below hb d r3⟩
theorem TyRow.slice {w:World}:∀{d:Nat} {v:Value} {ts:List (Ty d)},TyRow w d v ts->∃(p:Option Addr) (c:Nat),v=.slice p ts.length c
 | 0,_,[],h=>h
 | 0,_,t::_,_=>nomatch t
 | _+1,_,_,⟨p,c,e,_⟩=>⟨p,c,e⟩
open Go Go.RowKit Go.Maps Lx
end Go.Proofs.YtdamlfkieecnjaaGreatDoor
namespace Go.Proofs.YtdamlfkieecnjaaGreatDoor
open Lx
def zaf (d:Nat) (k:Int) (n:Bs) (ns:List Bs) (es:List Bool) (ps:List (Ty d)):Ty (d+1):=(k,n,ns,es,ps)
def zTy (d:Nat):Ty (d+1):=zaf d 0 [] [] [] []
def zd5:List Bs:=[[105,110,116],[98,111,111,108],[116,101,120,116],[42],[123],[102,110],[105,110,116,101,114,102,97,99,101]]
def za2 (t:Tok):Bool:=t.2.1==2||isM t zd5
def zdl (t:Tok):Bool:=isM t [[40]]
def zb7 {α:Type} (en:Int) (part:RS->α×RS):Nat->List Bool->List Bs->List α->RS->(List Bool×List Bs×List α)×RS
 | 0,es,ns,ps,s=>((es,ns,ps),s)
 | f+1,es,ns,ps,s=>if zab en s [125]=true then((es,ns,ps),Ju en s [125])else
  let s1:=Ju en s [125]
  let s2:=zb4 s1 [101,109,98,101,100]
  let q:=part (newS en s2 ns)
  zb7 en part f (es++[JB s1 [101,109,98,101,100]]) (ns++[(JF s2 1).2.2.1]) (ps++[q.1]) (Je en q.2 [59])
def zbs {α:Type} (en:Int) (part:RS->α×RS):Nat->List Bs->List α->RS->(List Bs×List α)×RS
 | 0,ns,ps,s=>((ns,ps),s)
 | f+1,ns,ps,s=>if zab en s [125]=true then((ns,ps),Ju en s [125])else
  let s1:=Ju en s [125]
  let q:=part (newS en s1 ns)
  zbs en part f (ns++[(JF s1 1).2.2.1]) (ps++[q.1]) (Je en q.2 [59])
def zad {α:Type} (part:RS->α×RS) (a:List α) (s:RS):List α×RS:=(a++[(part s).1],(part s).2)
def sigP {α:Type} (en:Int) (part:RS->α×RS) (s:RS):List α×RS:=zad part (Jj en [41] (zad part) [] s).1 (Jj en [41] (zad part) [] s).2
def zco {d:Nat} (en:Int) (part:RS->Ty d×RS) (s:RS):Ty (d+1)×RS:=
 if zdl (J5 s)=true then(zaf d 7 [] [] [] (sigP en part (J7 s)).1,(sigP en part (J7 s)).2)else(zTy d,Jb en s)
def tyA {d:Nat} (en:Int) (p g:RS->Ty d×RS) (t:Tok) (s:RS):Ty (d+1)×RS:=
 if t.2.1=2 then(zaf d 4 t.2.2.1 [] [] [],s)
 else if t.2.2.1=[105,110,116]then(zaf d 1 [] [] [] [],s)
 else if t.2.2.1=[98,111,111,108]then(zaf d 2 [] [] [] [],s)
 else if t.2.2.1=[116,101,120,116]then(zaf d 3 [] [] [] [],s)
 else if t.2.2.1=[42]then(zaf d 5 [] [] [] [(p s).1],(p s).2)
 else if t.2.2.1=[123]then let q:=zb7 en p (s.1.length+1) [] [] [] s;(zaf d 6 [] q.1.2.1 q.1.1 q.1.2.2,q.2)
 else if t.2.2.1=[102,110]then zco en p s
 else let q:=zbs en g ((Je en s [123]).1.length+1) [] [] (Je en s [123]);(zaf d 8 [] q.1.1 [] q.1.2,q.2)
def pTS (en:Int):(d:Nat)->(RS->Ty (d+1)×RS)×(RS->Ty (d+1)×RS)
 | 0=>(fun s=>(zTy 0,zbq za2 en s 65),fun s=>(zTy 0,zbq zdl en s 65))
 | d+1=>(fun s=>if za2 (J5 s)=true then tyA en (pTS en d).1 (pTS en d).2 (J5 s) (J7 s)else(zTy (d+1),Jb en s),fun s=>zco en (pTS en d).1 s)
theorem entS_len (b:Tok->Bool) (en:Int) (s:RS) (k:Int):(zbq b en s k).1.length<=s.1.length:=by
 unfold zbq;split
 ·simp[za6]
 ·split
  ·simp[rRef_len]
  ·exact Nat.le_refl _
def Less {α:Type} (p:RS->α×RS):Prop:=∀s,(p s).2.1.length<=s.1.length
theorem ze8 {α:Type} {thing:α->RS->α×RS} (h:∀a s,(thing a s).2.1.length<=s.1.length):∀(f:Nat) (a:α) (s:RS),(Jl thing f a s).2.1.length<=s.1.length
 | 0,_,_=>Nat.le_refl _
 | f+1,a,s=>by
  rw[Jl];split
  ·have h1:=ze8 h f (thing a (J7 s)).1 (thing a (J7 s)).2;have h2:=h a (J7 s);have h3:=Jt s;omega
  ·exact Nat.le_refl _
theorem commasP_len {α:Type} {en:Int} {e:Bs} {thing:α->RS->α×RS} (h:∀a s,(thing a s).2.1.length<=s.1.length) (a:α) (s:RS):(Jj en e thing a s).2.1.length<=s.1.length:=by
 rw[Jj];split
 ·have:=Jt s;simp only;omega
 ·have h1:=ze8 h ((thing a s).2.1.length+1) (thing a s).1 (thing a s).2;have h2:=h a s;exact Nat.le_trans (JK _ _ _) (by omega)
theorem recF_len {α:Type} {en:Int} {p:RS->α×RS} (h:Less p):∀(f:Nat) (es:List Bool) (ns:List Bs) (ps:List α) (s:RS),(zb7 en p f es ns ps s).2.1.length<=s.1.length
 | 0,_,_,_,_=>Nat.le_refl _
 | f+1,es,ns,ps,s=>by
  rw[zb7];split
  ·exact zau _ _ _
  ·refine Nat.le_trans (recF_len h f _ _ _ _) (Nat.le_trans (JK _ _ _) (Nat.le_trans (h _) (Nat.le_trans (zc6 _ _ _) ?_)));have h1:=zdk (Ju en s [125]) [101,109,98,101,100];have h2:=zau en s [125];omega
theorem ifaF_len {α:Type} {en:Int} {p:RS->α×RS} (h:Less p):∀(f:Nat) (ns:List Bs) (ps:List α) (s:RS),(zbs en p f ns ps s).2.1.length<=s.1.length
 | 0,_,_,_=>Nat.le_refl _
 | f+1,ns,ps,s=>by
  rw[zbs];split
  ·exact zau _ _ _
  ·refine Nat.le_trans (ifaF_len h f _ _ _) (Nat.le_trans (JK _ _ _) (Nat.le_trans (h _) (Nat.le_trans (zc6 _ _ _) ?_)));have h2:=zau en s [125];omega
theorem sigP_len {α:Type} {en:Int} {p:RS->α×RS} (h:Less p) (s:RS):(sigP en p s).2.1.length<=s.1.length:=Nat.le_trans (h _) (commasP_len (thing:=zad p) (fun _ s=>h s) _ _)
theorem sigA_len {d:Nat} {en:Int} {p:RS->Ty d×RS} (h:Less p):Less (zco en p):=fun s=>by
 unfold zco;split
 ·have h1:=sigP_len (en:=en) h (J7 s);have h2:=Jt s;simp only;omega
 ·simp[za6]
theorem tyA_len {d:Nat} {en:Int} {p g:RS->Ty d×RS} (h:Less p) (k:Less g) (t:Tok) (s:RS):(tyA en p g t s).2.1.length<=s.1.length:=by
 unfold tyA
 split;· exact Nat.le_refl _
 split;· exact Nat.le_refl _
 split;· exact Nat.le_refl _
 split;· exact Nat.le_refl _
 split;· exact h s
 split;· exact recF_len h _ _ _ _ _
 split;· exact sigA_len h s
 exact Nat.le_trans (ifaF_len k _ _ _ _) (JK _ _ _)
theorem zah (en:Int):∀d,Less (pTS en d).1/\Less (pTS en d).2
 | 0=>⟨fun s=>entS_len _ _ _ _,fun s=>entS_len _ _ _ _⟩
 | d+1=>⟨fun s=>by
   show(if za2 (J5 s)=true then tyA en (pTS en d).1 (pTS en d).2 (J5 s) (J7 s)else(zTy (d+1),Jb en s)).2.1.length<=_
   split
   ·have h1:=tyA_len (en:=en) (zah en d).1 (zah en d).2 (J5 s) (J7 s);have h2:=Jt s;omega
   ·simp[za6],sigA_len (zah en d).1⟩
end Go.Proofs.YtdamlfkieecnjaaGreatDoor
