/- Proved: coillaw3.ParseTypes answers true, whatever text and number it is handed, whatever memory it is called in; the condition is that the listed variables of the library hold what the program's text lays (the card ties them to it). -/
import Derived.Test.YtdamlfkieecnjaaGreatDoorQRGo
import Derived.Test.YtdamlfkieecnjaaGreatDoorQREval
import Derived.Test.YtdamlfkieecnjaaGreatDoorQPTPa
import Derived.Test.YtdamlfkieecnjaaGreatDoorQPTLaid
import Derived.ChangeMaps5
set_option maxHeartbeats 8000000
set_option maxRecDepth 100000
namespace Go.Proofs.YtdamlfkieecnjaaGreatDoor
open Go Go.ChangeShapes Go.WideShapes Go.ChangeAt Go.RowKit
open Go.ChangeMaps (open_string shut_string)
theorem pt_lifted (os:Os) (started:os.Started) (H:Type) (enc:TypeId×Value->H) :
  ReturnsInHanded {} Tryz.checked os 3 .any (fun w args=>(Rows.parseTypesSpec.pre enc Tryz.prog Tryz.f3 [] false w args/\laidMetH Tryz.prog laidL w)/\sizedMet enc Tryz.prog Tryz.f3 (OpenSpec.ofChange Rows.parseTypesSpec) false w args)
   (Rows.parseTypesSpec.post enc Tryz.prog Tryz.f3 false true false false):=by
 refine returnsInHanded_of_change_and (C:=Tryz.checked) (X:=fun w _=>laidMetH Tryz.prog laidL w) (fun _ _ _ hh h=>h.of_heap hh) own started (by as_aux_lemma=>kernel_rfl) Tryz.func3
  (ChangeSpec.witness_shaped (enc:=enc) (C:=Tryz.checked) (os:=os) (X:=fun w _=>laidMetH Tryz.prog laidL w) false (World.doorLaid Tryz.prog 4000 os) #[.string ⟨#[]⟩,.int .i64 0] 8 rfl (World.shaped_of_RefB (by as_aux_lemma=>kernel_rfl) (by as_aux_lemma=>kernel_rfl)) (by as_aux_lemma=>kernel_rfl) (by as_aux_lemma=>kernel_rfl) (by as_aux_lemma=>kernel_rfl) (door_met os _)) ?_
 intro W base args ds gs before hval0 hW _ _ hL _;have hval:∀(j:Nat) t v,Tryz.f3.params[j]?=some t->args[j]?=some v->Value.okWide Tryz.prog W .any base t v:=hval0
 have hW':=hW;obtain⟨p,q,hA0,hV,rfl,hfz,hnd⟩:=hW;have hA:DataW.TrodAll enc Tryz.prog W 0 (fun _=>true) true Tryz.f3.params.toList args.toList ds p:=hA0;rw[Tryz.params3]at hA hval;obtain⟨v0,v1,d0,d1,p0,p1,rfl,rfl,rfl,h0,h1⟩:=trodAll_two hA;obtain⟨s0,rfl,rfl,rfl,w0⟩:=open_string Tryz.underlying9 (hval 0 9 v0 rfl rfl) h0;obtain⟨n1,rfl,rfl,rfl,w1⟩:=open_int Tryz.underlying3 (hval 1 3 v1 rfl rfl) h1;obtain⟨rfl,rfl⟩:=trodVars_none hV;obtain⟨he,ht,h5⟩:=of_laid hL;have e1:Rows.parseTypesSpec.fn H ([.lit (.string s0.data.toList),.lit (.int .i64 n1)]++[])={ results:=[.lit (.bool true)],args:=[.lit (.string s0.data.toList),.lit (.int .i64 n1)] }:=rfl;refine(ParseTypes_any s0 n1 W (by unfold maxLen at w0;omega) (bounds_i64 w1) he ht h5 fun W2 hb=>Am.runs_by (by as_aux_lemma=>kernel_rfl) JV extsT_ok (JW evals) W2 ((glob_ok hL).keep fun k hk _=>hb.block k hk)).mono fun e W' ⟨hev,hb⟩=>?_
 subst hev;refine⟨_,rfl,_,_,_,[],[],[],hW',?_,?_,?_,hb.frame _,fun h=>by cases h⟩
 ·rw[e1];exact trodAll_mk1 (shut_bool Tryz.underlying4 true)
 ·rw[e1];exact trodAll_mk2 (shut_string Tryz.underlying9 w0) (shut_int Tryz.underlying3 w1)
 ·rw[e1];rfl
theorem parseTypes_row:Rows.ParseTypesSaid:=
 OpenClaim.holds_of_wide 3 Tryz.f3 rfl rfl rfl rfl rfl rfl rfl ⟨rfl,rfl,rfl,rfl,rfl⟩ rfl rfl rfl rfl rfl (by as_aux_lemma=>kernel_rfl) Tryz.func3 closed_facts
  (of_decide_eq_true (by as_aux_lemma=>kernel_rfl)) (by unfold Func.isWrapper;rw[if_neg (of_decide_eq_false (by kernel_rfl))];exact⟨rfl,rfl⟩)
  (fun os started H enc _=>pt_lifted os started H enc)
theorem parseTypes_holds:Rows.ParseTypesCardSaid:=
 Claim7.holds_tied_plain_at .later [] [.data,.data,.data,.handle] true Rows.parseTypesCard.stood.harness true
  parseTypes_row (fun _ h=>by cases h) (by as_aux_lemma=>kernel_rfl) (fun _ h=>by cases h) parseTypes_row_tie rfl ⟨rfl,rfl⟩ (by as_aux_lemma=>kernel_rfl) rfl
  (fun f fn hf hfn=>by
   obtain rfl:f=3:=Option.some.inj ((show Tryz.prog.funcNamed "coil/coillaw3.ParseTypes" = some 3 by as_aux_lemma=>kernel_rfl).symm.trans hf) |>.symm
   obtain rfl:fn=Tryz.f3:=(Option.some.inj (Tryz.func3.symm.trans hfn)).symm;exact⟨by as_aux_lemma=>kernel_rfl,fun j t ht=>by
    rw[Tryz.params3]at ht;rcases j with _|_|j
    ·have h3:t=9:=by simpa using ht.symm
     subst h3;exact(show Tryz.prog.wantsStandIn 9=false by as_aux_lemma=>kernel_rfl)
    ·have h3:t=3:=by simpa using ht.symm
     subst h3;exact(show Tryz.prog.wantsStandIn 3=false by as_aux_lemma=>kernel_rfl)
    ·simp at ht⟩)
  (goesBy_none no_goes rfl)
#print axioms parseTypes_holds
end Go.Proofs.YtdamlfkieecnjaaGreatDoor
