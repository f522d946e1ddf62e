import Derived.Test.YtdamlfkieecnjaaGreatDoorQRefA
import Derived.Test.YtdamlfkieecnjaaGreatDoorQPTypes

namespace Go.Proofs.YtdamlfkieecnjaaGreatDoor
open Go Go.RowKit Lx
open Go Go.RowKit Go.Maps Go.WideMaps Lx
def TyVal (W:World) (d:Nat) (v:Value) (t:Ty (d+1)):Prop:=
 ∃(pn pe pp:Option Addr) (cn ce cp:Nat),v=.agg #[.int .i64 t.1,.string ⟨t.2.1.toArray⟩,.slice pn t.2.2.1.length cn,.slice pe t.2.2.2.1.length ce,.slice pp t.2.2.2.2.length cp] /\
  SRow W (.slice pn t.2.2.1.length cn) t.2.2.1/\BRow W (.slice pe t.2.2.2.1.length ce) t.2.2.2.1/\TyRow W d (.slice pp t.2.2.2.2.length cp) t.2.2.2.2
theorem TyVal.below {w w':World} {d:Nat} {v:Value} {t:Ty (d+1)} (h:TyVal w d v t) (hb:Below w.heap.size w w'):TyVal w' d v t:=by
 obtain⟨pn,pe,pp,cn,ce,cp,rfl,r1,r2,r3⟩:=h;exact⟨pn,pe,pp,cn,ce,cp,rfl,r1.below hb,r2.below hb,TyRow.below hb d r3⟩
end Go.Proofs.YtdamlfkieecnjaaGreatDoor
namespace Go.Proofs.YtdamlfkieecnjaaGreatDoor
open Go Go.RowKit Lx
end Go.Proofs.YtdamlfkieecnjaaGreatDoor
namespace Go.Proofs.YtdamlfkieecnjaaGreatDoor
open Go Go.RowKit Lx
theorem addr_add (g k:Nat):(⟨g,0,none⟩:Addr).add k=⟨g,k,none⟩:=by
 by_cases h:k=0
 ·subst h;rfl
 ·simp[Addr.add,h]
end Go.Proofs.YtdamlfkieecnjaaGreatDoor
