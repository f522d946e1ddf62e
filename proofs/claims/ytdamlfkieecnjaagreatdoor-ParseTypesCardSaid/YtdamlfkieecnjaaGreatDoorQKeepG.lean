import Derived.Deep.Slices
import Derived.Handed
import Derived.OpenShut
import Derived.Test.YtdamlfkieecnjaaGreatDoorQSynD

namespace Go.Proofs.YtdamlfkieecnjaaGreatDoor
open Go Go.ChangeShapes Go.WideShapes Go.ChangeAt Go.RowKit Go.Deep Lx
section
variable {H:Type} {enc:TypeId×Value->H} {W:World}
end
open Go Go.RowKit Lx
def TyValD (W:World):(d:Nat)->Value->Ty d->Prop
 | 0,_,_=>False
 | d+1,v,t=>TyVal W d v t
theorem TyValD.below {w w':World} (hb:Below w.heap.size w w'):∀{d:Nat} {v:Value} {t:Ty d},TyValD w d v t->TyValD w' d v t
 | 0,_,_,h=>h
 | _+1,_,_,h=>TyVal.below h hb
def TyCell (W:World) (pp:Option Addr) (k:Nat) (v:Value):Prop:=
 ∃(g o:Nat) (K:Int) (S:ByteArray) (pn pe p3:Option Addr) (nn cn ne ce n3 c3:Nat),pp=some ⟨g,o,none⟩/\v=.agg #[.int .i64 K,.string S,.slice pn nn cn,.slice pe ne ce,.slice p3 n3 c3] /\
  W.cell? ⟨g,o+k*5,none⟩=some (.int .i64 K)/\W.cell? ⟨g,o+k*5+1,none⟩=some (.string S)/\W.cell? ⟨g,o+k*5+2,none⟩=some (.slice pn nn cn)/\W.cell? ⟨g,o+k*5+3,none⟩=some (.slice pe ne ce)/\W.cell? ⟨g,o+k*5+4,none⟩=some (.slice p3 n3 c3)
theorem TyRow.at {w:World}:∀{d:Nat} {pp:Option Addr} {cp:Nat} {ts:List (Ty d)},TyRow w d (.slice pp ts.length cp) ts->∀(k:Nat) (hk:k<ts.length),∃v,TyCell w pp k v/\TyValD w d v ts[k]
 | 0,_,_,ts,_,k,hk=>by
  match ts,hk with
  | t::_,_=>exact nomatch t
 | d+1,pp,cp,ts,h,k,hk=>by
  obtain⟨p,c,e,hp⟩:=h;injection e with e1 e2 e3
  subst e1;obtain⟨g,o,vn,ve,vp,rfl,a0,a1,a2,a3,a4,r1,r2,r3⟩:=hp k ts[k] (by simp);obtain⟨pn,cn,rfl,h1⟩:=r1;obtain⟨pe,ce,rfl,h2⟩:=r2;obtain⟨p3,c3,rfl⟩:=r3.slice;exact⟨_,⟨g,o,_,_,pn,pe,p3,_,cn,_,ce,_,c3,rfl,rfl,a0,a1,a2,a3,a4⟩,pn,pe,p3,cn,ce,c3,rfl,⟨pn,cn,rfl,h1⟩,⟨pe,ce,rfl,h2⟩,r3⟩
def WfD:(d:Nat)->Ty d->Prop
 | 0,_=>False
 | d+1,t=>t.2.1.length<=140737488351232/\t.2.2.1.length<=140737488351232/\(∀s∈t.2.2.1,s.length<=140737488351232)/\t.2.2.2.1.length<=140737488351232/\t.2.2.2.2.length<=140737488351232/\∀u∈t.2.2.2.2,WfD d u
abbrev tyBox (K:Int) (S:ByteArray) (pn pe pp:Option Addr) (nn ne np cn ce cp:Nat):Obj:=.cells #[.int .i64 K,.string S,.slice pn nn cn,.slice pe ne ce,.slice pp np cp] 27
theorem box_cells {K:Int} {S:ByteArray} {pn pe pp:Option Addr} {nn ne np cn ce cp:Nat} {w wr:World} (hb:Below (w.alloc (tyBox K S pn pe pp nn ne np cn ce cp)).heap.size (w.alloc (tyBox K S pn pe pp nn ne np cn ce cp)) wr) :
  wr.cell? ⟨w.heap.size,0,none⟩=some (.int .i64 K)/\wr.cell? ⟨w.heap.size,1,none⟩=some (.string S)/\wr.cell? ⟨w.heap.size,2,none⟩=some (.slice pn nn cn)/\wr.cell? ⟨w.heap.size,3,none⟩=some (.slice pe ne ce)/\wr.cell? ⟨w.heap.size,4,none⟩=some (.slice pp np cp):=by
 have h:∀j,wr.cell? ⟨w.heap.size,j,none⟩=(#[Value.int .i64 K,.string S,.slice pn nn cn,.slice pe ne ce,.slice pp np cp])[j]?:=fun j=>by
  rw[hb.cell (p:=⟨w.heap.size,j,none⟩) (by simp),World.cell?_alloc_at _ _ _ _ rfl]
 exact⟨h 0,h 1,h 2,h 3,h 4⟩
end Go.Proofs.YtdamlfkieecnjaaGreatDoor
