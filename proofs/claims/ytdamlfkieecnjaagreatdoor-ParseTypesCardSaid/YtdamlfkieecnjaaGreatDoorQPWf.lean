import Derived.Test.YtdamlfkieecnjaaGreatDoorQPTypeF
import Derived.Test.YtdamlfkieecnjaaGreatDoorQKeepG

namespace Go.Proofs.YtdamlfkieecnjaaGreatDoor
open Lx
namespace Lx
theorem lay_short {src:Bs} (hl:src.length<=4000):∀(ts:List Tok) (e:Nat),e<=src.length->Lay (src.drop e) e ts->∀t∈ts,t.2.2.1.length<=4000
 | [],_,_,_,t,ht=>by simp at ht
 | x::ts,e,he,h,t,ht=>by
  have hp:=place_step he hl h;rcases List.mem_cons.1 ht with rfl|ht
  ·exact hp.2.2.2.2.2.2.2.1
  ·exact lay_short hl ts _ hp.2.2.2.1 hp.2.2.2.2.2.2.1 t ht
theorem lex_short {l:Bs} (hl:l.length<=4000) (hx:(lex l).2=none):∀t∈(lex l).1,t.2.2.1.length<=4000:=
 lay_short (src:=l) hl _ 0 (Nat.zero_le _) (by simpa using(lex_ok' hx).2.1)
end Lx
def Tw (s:RS):Prop:=s.1.length<=100000/\∀t∈s.1,t.2.2.1.length<=4000
def Tws {α:Type} (p:RS->α×RS):Prop:=∀s,Tw s->Tw (p s).2
section
variable {s:RS} {en:Int}
theorem nil_tw {o:Option (Int×Int)}:Tw ([],o):=⟨by simp,fun t ht=>by simp at ht⟩
theorem zaa (h:Tw s):Tw (J7 s):=⟨by rw[Jt];have:=h.1;omega,fun t ht=>h.2 t (List.mem_of_mem_tail ht)⟩
theorem rRef_tw (a y:Int):Tw (zbv s a y):=nil_tw
theorem zbh (en:Int) (s:RS):Tw (Jb en s):=by unfold Jb;split <;> exact nil_tw
theorem accS_tw (h:Tw s) (m:Bs):Tw (zb4 s m):=by
 unfold zb4;split
 ·exact zaa h
 ·exact h
theorem zbm (h:Tw s) (m:Bs):Tw (Je en s m):=by
 unfold Je;split
 ·exact zaa h
 ·exact zbh _ _
theorem kindS_tw (h:Tw s) (k:Int):Tw (JX en s k):=by
 unfold JX;split
 ·exact zaa h
 ·exact zbh _ _
theorem newS_tw (h:Tw s) (l:List Bs):Tw (newS en s l):=by
 unfold newS;split
 ·exact rRef_tw _ _
 ·exact kindS_tw h 1
theorem openS_tw (h:Tw s):Tw (zb5 en s):=by
 unfold zb5;split
 ·exact zbh _ _
 ·exact h
theorem zbj (h:Tw s) (m:Bs):Tw (Ju en s m):=accS_tw (openS_tw h) m
theorem entS_tw (h:Tw s) (b:Tok->Bool) (k:Int):Tw (zbq b en s k):=by
 unfold zbq;split
 ·exact zbh _ _
 ·split
  ·exact rRef_tw _ _
  ·exact h
end
theorem commasF_tw {α:Type} {thing:α->RS->α×RS} (h:∀a,Tws (thing a)):∀(f:Nat) (a:α),Tws (Jl thing f a)
 | 0,_=>fun _ e=>e
 | f+1,a=>fun s e=>by
  rw[Jl];split
  ·exact commasF_tw h f _ _ (h a _ (zaa e))
  ·exact e
theorem commasP_tw {α:Type} {en:Int} {m:Bs} {thing:α->RS->α×RS} (h:∀a,Tws (thing a)) (a:α):Tws (Jj en m thing a):=fun s e=>by
 rw[Jj];split
 ·exact zaa e
 ·exact zbm (commasF_tw h _ _ _ (h a _ e)) _
theorem recF_tw {α:Type} {en:Int} {p:RS->α×RS} (h:Tws p):∀(f:Nat) (es:List Bool) (ns:List Bs) (ps:List α),Tws (zb7 en p f es ns ps)
 | 0,_,_,_=>fun _ e=>e
 | f+1,es,ns,ps=>fun s e=>by
  rw[zb7];split
  ·exact zbj e _
  ·exact recF_tw h f _ _ _ _ (zbm (h _ (newS_tw (accS_tw (zbj e _) _) _)) _)
theorem ifaF_tw {α:Type} {en:Int} {p:RS->α×RS} (h:Tws p):∀(f:Nat) (ns:List Bs) (ps:List α),Tws (zbs en p f ns ps)
 | 0,_,_=>fun _ e=>e
 | f+1,ns,ps=>fun s e=>by
  rw[zbs];split
  ·exact zbj e _
  ·exact ifaF_tw h f _ _ _ (zbm (h _ (newS_tw (zbj e _) _)) _)
theorem onto_tw {α:Type} {p:RS->α×RS} (h:Tws p) (a:List α):Tws (zad p a):=fun s e=>h s e
theorem sigP_tw {α:Type} {en:Int} {p:RS->α×RS} (h:Tws p):Tws (sigP en p):=fun s e=>h _ (commasP_tw (onto_tw h) _ s e)
theorem sigA_tw {d:Nat} {en:Int} {p:RS->Ty d×RS} (h:Tws p):Tws (zco en p):=fun s e=>by
 unfold zco;split
 ·exact sigP_tw h _ (zaa e)
 ·exact zbh _ _
theorem tyA_tw {d:Nat} {en:Int} {p g:RS->Ty d×RS} (h:Tws p) (k:Tws g) (t:Tok):Tws (tyA en p g t):=fun s e=>by
 unfold tyA
 split;· exact e
 split;· exact e
 split;· exact e
 split;· exact e
 split;· exact h s e
 split;· exact recF_tw h _ _ _ _ _ e
 split;· exact sigA_tw h s e
 exact ifaF_tw k _ _ _ _ (zbm e _)
theorem pTS_tw (en:Int):∀d,Tws (pTS en d).1/\Tws (pTS en d).2
 | 0=>⟨fun s e=>entS_tw e _ _,fun s e=>entS_tw e _ _⟩
 | d+1=>⟨fun s e=>by
   show Tw (if za2 (J5 s)=true then tyA en (pTS en d).1 (pTS en d).2 (J5 s) (J7 s)else(zTy (d+1),Jb en s)).2
   split
   ·exact tyA_tw (pTS_tw en d).1 (pTS_tw en d).2 _ _ (zaa e)
   ·exact zbh _ _,sigA_tw (pTS_tw en d).1⟩
theorem kindT_tw {s:RS} (h:Tw s) (k:Int):(JF s k).2.2.1.length<=4000:=by
 unfold JF J5
 split
 ·cases hs:s.1 with
  | nil=>simp
  | cons t l=>exact h.2 t (by rw[hs];exact List.mem_cons_self)
 ·simp
theorem peek_tw {s:RS} (h:Tw s):(J5 s).2.2.1.length<=4000:=by
 unfold J5
 cases hs:s.1 with
 | nil=>simp
 | cons t l=>exact h.2 t (by rw[hs];exact List.mem_cons_self)
def Wfs {d:Nat} (p:RS->Ty d×RS):Prop:=∀s,Tw s->WfD d (p s).1
theorem zdn {d:Nat} {k:Int} {n:Bs} {ns:List Bs} {es:List Bool} {ps:List (Ty d)} (h1:n.length<=4000) (h2:ns.length<=200000) (h3:∀s∈ns,s.length<=4000) (h4:es.length<=200000) (h5:ps.length<=200000) (h6:∀u∈ps,WfD d u):WfD (d+1) (zaf d k n ns es ps):=
 ⟨Nat.le_trans h1 (by decide),Nat.le_trans h2 (by decide),fun s hs=>Nat.le_trans (h3 s hs) (by decide),Nat.le_trans h4 (by decide),Nat.le_trans h5 (by decide),h6⟩
theorem zeo (d:Nat):WfD (d+1) (zTy d):=zdn (by simp) (by simp) (by simp) (by simp) (by simp) (by simp)
theorem leaf_wf {d:Nat} {k:Int} {n:Bs} (h:n.length<=4000):WfD (d+1) (zaf d k n [] [] []):=zdn h (by simp) (by simp) (by simp) (by simp) (by simp)
theorem recF_wf {d:Nat} {en:Int} {p:RS->Ty d×RS} (hT:Tws p) (hW:Wfs p):∀(f:Nat) (es:List Bool) (ns:List Bs) (ps:List (Ty d)) (s:RS),Tw s->es.length+f<=200000->ns.length+f<=200000->ps.length+f<=200000->(∀x∈ns,x.length<=4000)->(∀u∈ps,WfD d u) ->
  (zb7 en p f es ns ps s).1.1.length<=200000/\(zb7 en p f es ns ps s).1.2.1.length<=200000/\(zb7 en p f es ns ps s).1.2.2.length<=200000/\(∀x∈(zb7 en p f es ns ps s).1.2.1,x.length<=4000)/\∀u∈(zb7 en p f es ns ps s).1.2.2,WfD d u
 | 0,es,ns,ps,s,_,h1,h2,h3,h4,h5=>⟨by simpa[zb7]using h1,by simpa[zb7]using h2,by simpa[zb7]using h3,h4,h5⟩
 | f+1,es,ns,ps,s,hs,h1,h2,h3,h4,h5=>by
  rw[zb7]
  split
  ·exact⟨by show es.length<=_;omega,by show ns.length<=_;omega,by show ps.length<=_;omega,h4,h5⟩
  ·have hs1:=zbj (en:=en) hs [125];have hs2:=accS_tw hs1 [101,109,98,101,100];have hs3:=newS_tw (en:=en) hs2 ns;exact recF_wf hT hW f _ _ _ _ (zbm (hT _ hs3) _) (by simp;omega) (by simp;omega) (by simp;omega)
    (fun x hx=>by
     rcases List.mem_append.1 hx with hx|hx
     ·exact h4 x hx
     ·obtain rfl:=List.mem_singleton.1 hx;exact kindT_tw hs2 1)
    (fun u hu=>by
     rcases List.mem_append.1 hu with hu|hu
     ·exact h5 u hu
     ·obtain rfl:=List.mem_singleton.1 hu;exact hW _ hs3)
theorem ifaF_wf {d:Nat} {en:Int} {p:RS->Ty d×RS} (hT:Tws p) (hW:Wfs p):∀(f:Nat) (ns:List Bs) (ps:List (Ty d)) (s:RS),Tw s->ns.length+f<=200000->ps.length+f<=200000->(∀x∈ns,x.length<=4000)->(∀u∈ps,WfD d u) ->
  (zbs en p f ns ps s).1.1.length<=200000/\(zbs en p f ns ps s).1.2.length<=200000/\(∀x∈(zbs en p f ns ps s).1.1,x.length<=4000)/\∀u∈(zbs en p f ns ps s).1.2,WfD d u
 | 0,ns,ps,s,_,h2,h3,h4,h5=>⟨by simpa[zbs]using h2,by simpa[zbs]using h3,h4,h5⟩
 | f+1,ns,ps,s,hs,h2,h3,h4,h5=>by
  rw[zbs]
  split
  ·exact⟨by show ns.length<=_;omega,by show ps.length<=_;omega,h4,h5⟩
  ·have hs1:=zbj (en:=en) hs [125];have hs3:=newS_tw (en:=en) hs1 ns;exact ifaF_wf hT hW f _ _ _ (zbm (hT _ hs3) _) (by simp;omega) (by simp;omega)
    (fun x hx=>by
     rcases List.mem_append.1 hx with hx|hx
     ·exact h4 x hx
     ·obtain rfl:=List.mem_singleton.1 hx;exact kindT_tw hs1 1)
    (fun u hu=>by
     rcases List.mem_append.1 hu with hu|hu
     ·exact h5 u hu
     ·obtain rfl:=List.mem_singleton.1 hu;exact hW _ hs3)
theorem zdo {d:Nat} {p:RS->Ty d×RS} (hT:Tws p) (hW:Wfs p):∀(f:Nat) (a:List (Ty d)) (s:RS),Tw s->(∀u∈a,WfD d u)->(Jl (zad p) f a s).1.length<=a.length+f/\∀u∈(Jl (zad p) f a s).1,WfD d u
 | 0,a,s,_,h=>⟨Nat.le_refl _,h⟩
 | f+1,a,s,hs,h=>by
  rw[Jl]
  split
  ·have ih:=zdo hT hW f (zad p a (J7 s)).1 (zad p a (J7 s)).2 (hT _ (zaa hs)) (fun u hu=>by
    rcases List.mem_append.1 hu with hu|hu
    ·exact h u hu
    ·obtain rfl:=List.mem_singleton.1 hu;exact hW _ (zaa hs))
   refine⟨?_,ih.2⟩;have h2:(zad p a (J7 s)).1.length=a.length+1:=by simp[zad]
   have:=ih.1;omega
  ·exact⟨by show a.length<=_;omega,h⟩
theorem sigA_wf {d:Nat} {en:Int} {p:RS->Ty d×RS} (hT:Tws p) (hW:Wfs p):Wfs (zco en p):=fun s hs=>by
 unfold zco
 split
 ·have hs1:=zaa hs;refine zdn (by simp) (by simp) (by simp) (by simp) ?_ ?_
  ·show((Jj en [41] (zad p) [] (J7 s)).1++[_]).length<=_;unfold Jj
   split
   ·simp
   ·have h1:=(zdo hT hW ((zad p [] (J7 s)).2.1.length+1) (zad p [] (J7 s)).1 (zad p [] (J7 s)).2 (hT _ hs1) (fun u hu=>by
     obtain rfl:u=(p (J7 s)).1:=by simpa[zad]using hu
     exact hW _ hs1)).1
    have h2:(zad p [] (J7 s)).2.1.length<=100000:=(hT _ hs1).1;have h3:(zad p [] (J7 s)).1.length=1:=by simp[zad]
    simp only[List.length_append,List.length_singleton];omega
  ·intro u hu;rcases List.mem_append.1 (show u∈(Jj en [41] (zad p) [] (J7 s)).1++[(p (Jj en [41] (zad p) [] (J7 s)).2).1]from hu)with hu|hu
   ·unfold Jj at hu
    split at hu
    ·simp at hu
    ·exact(zdo hT hW _ _ _ (hT _ hs1) (fun u hu=>by
      obtain rfl:u=(p (J7 s)).1:=by simpa[zad]using hu
      exact hW _ hs1)).2 u hu
   ·obtain rfl:=List.mem_singleton.1 hu;exact hW _ (commasP_tw (onto_tw hT) _ _ hs1)
 ·exact zeo d
theorem tyA_wf {d:Nat} {en:Int} {p g:RS->Ty d×RS} (hT:Tws p) (hW:Wfs p) (kT:Tws g) (kW:Wfs g) {t:Tok} (ht:t.2.2.1.length<=4000):Wfs (tyA en p g t):=fun s hs=>by
 unfold tyA
 split;· exact leaf_wf ht
 split;· exact leaf_wf (by simp)
 split;· exact leaf_wf (by simp)
 split;· exact leaf_wf (by simp)
 split
 ·exact zdn (by simp) (by simp) (by simp) (by simp) (by simp) (fun u hu=>by
   obtain rfl:=List.mem_singleton.1 hu;exact hW _ hs)
 split
 ·have hl:=hs.1;obtain⟨h1,h2,h3,h4,h5⟩:=recF_wf (en:=en) hT hW (s.1.length+1) [] [] [] s hs (by simp;omega) (by simp;omega) (by simp;omega) (by simp) (by simp);exact zdn (by simp) h2 h4 h1 h3 h5
 split;· exact sigA_wf hT hW s hs
 have hs1:=zbm (en:=en) hs [123];have hl:=hs1.1;obtain⟨h1,h2,h3,h4⟩:=ifaF_wf (en:=en) kT kW ((Je en s [123]).1.length+1) [] [] (Je en s [123]) hs1 (by simp;omega) (by simp;omega) (by simp) (by simp);exact zdn (by simp) h1 h3 (by simp) h2 h4
theorem pTS_wf (en:Int):∀d,Wfs (pTS en d).1/\Wfs (pTS en d).2
 | 0=>⟨fun _ _=>zeo 0,fun _ _=>zeo 0⟩
 | d+1=>⟨fun s hs=>by
   show WfD (d+2) (if za2 (J5 s)=true then tyA en (pTS en d).1 (pTS en d).2 (J5 s) (J7 s)else(zTy (d+1),Jb en s)).1
   split
   ·exact tyA_wf (pTS_tw en d).1 (pTS_wf en d).1 (pTS_tw en d).2 (pTS_wf en d).2 (peek_tw hs) _ (zaa hs)
   ·exact zeo (d+1),sigA_wf (pTS_tw en d).1 (pTS_wf en d).1⟩
theorem pType_wf {l:Bs} (hl:l.length<=4000):WfD 65 (zby l).2:=by
 unfold zby
 cases hx:(lex l).2 with
 | some q=>exact zeo 64
 | none=>exact(pTS_wf (l.length:Int) 64).1 _ ⟨by have:=Lx.lex_most l;show(lex l).1.length<=_;omega,lex_short hl hx⟩
end Go.Proofs.YtdamlfkieecnjaaGreatDoor
