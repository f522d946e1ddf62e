/-
  Proved: coillaw11.InterpShort answers true, whatever two bools it is handed, whatever memory it is called in; the condition is that the listed variables of the library hold what the program's text lays (the card ties them to it).
-/
import Derived.Test.YtcfekhcdadldmaaGreatDoorRLaid
import Derived.Test.YtcfekhcdadldmaaGreatDoorRGo
import Derived.Test.YtcfekhcdadldmaaGreatDoorSEval
import Derived.Test.YtcfekhcdadldmaaGreatDoorSPa
namespace Go.Proofs.YtcfekhcdadldmaaGreatDoor
open Go Go.ChangeShapes Go.WideShapes Go.ChangeAt Go.RowKit Am

theorem l2_bb (a b : Bool) : L2 (fun _ => none) [.bool a, .bool b] [.bool a, .bool b] := L2.cons (by rw [VR]) (L2.cons (by rw [VR]) (L2.nil _))
theorem any_two (a b : Bool) (W : World) (hG : GlobOk W) : Calls Tryz.prog 4 #[.bool a, .bool b] W fun e w' => e = .returned (.bool true) ∧ Below W.heap.size W w' := by
  cases a with
  | true => cases b with
    | true => exact runs_at (by as_aux_lemma => kernel_rfl) xts_ok S.extsT_ok (of_toB S.evals0) (l2_bb true true) W hG
    | false => exact runs_at (by as_aux_lemma => kernel_rfl) xts_ok S.extsT_ok (of_toB S.evals1) (l2_bb true false) W hG
  | false => cases b with
    | true => exact runs_at (by as_aux_lemma => kernel_rfl) xts_ok S.extsT_ok (of_toB S.evals2) (l2_bb false true) W hG
    | false => exact runs_at (by as_aux_lemma => kernel_rfl) xts_ok S.extsT_ok (of_toB S.evals3) (l2_bb false false) W hG

set_option maxRecDepth 100000 in
set_option maxHeartbeats 8000000 in
theorem interpShort_lifted (os : Os) (started : os.Started) (H : Type) (enc : TypeId × Value → H) :
    ReturnsInHanded {} Tryz.checked os 4 .any (fun w args => (Rows.interpShortSpec.pre enc Tryz.prog Tryz.f4 [] false w args ∧ laidMetH Tryz.prog laidL w) ∧ sizedMet enc Tryz.prog Tryz.f4 (OpenSpec.ofChange Rows.interpShortSpec) false w args)
      (Rows.interpShortSpec.post enc Tryz.prog Tryz.f4 false true false false) := by
  refine returnsInHanded_of_change_and (C := Tryz.checked) (X := fun w _ => laidMetH Tryz.prog laidL w) (fun _ _ _ hh h => h.of_heap hh) own started (by as_aux_lemma => kernel_rfl) Tryz.func4
    (ChangeSpec.witness_shaped (enc := enc) (C := Tryz.checked) (os := os) (X := fun w _ => laidMetH Tryz.prog laidL w) false (World.doorLaid Tryz.prog 4000 os) #[.bool false, .bool false] 8 rfl (World.shaped_of_RefB (by as_aux_lemma => kernel_rfl) (by as_aux_lemma => kernel_rfl)) (by as_aux_lemma => kernel_rfl) (by as_aux_lemma => kernel_rfl) (by as_aux_lemma => kernel_rfl) (door_met os _)) ?_
  intro W base args ds gs before hval0 hW _ _ hL _
  have hval : ∀ (j : Nat) t v, Tryz.f4.params[j]? = some t → args[j]? = some v → Value.okWide Tryz.prog W .any base t v := hval0
  have hW' := hW
  obtain ⟨p, q, hA0, hV, rfl, hfz, hnd⟩ := hW
  have hA : DataW.TrodAll enc Tryz.prog W 0 (fun _ => true) true Tryz.f4.params.toList args.toList ds p := hA0
  rw [Tryz.params4] at hA hval
  obtain ⟨v0, v1, d0, d1, p0, p1, rfl, rfl, rfl, h0, h1⟩ := trodAll_two hA
  obtain ⟨b0, rfl, rfl, rfl⟩ := open_bool Tryz.underlying4 (hval 0 4 v0 rfl rfl) h0
  obtain ⟨b1, rfl, rfl, rfl⟩ := open_bool Tryz.underlying4 (hval 1 4 v1 rfl rfl) h1
  obtain ⟨rfl, rfl⟩ := trodVars_none hV
  have e1 : Rows.interpShortSpec.fn H ([.lit (.bool b0), .lit (.bool b1)] ++ []) = { results := [.lit (.bool true)], args := [.lit (.bool b0), .lit (.bool b1)] } := rfl
  refine (any_two b0 b1 W (glob_ok hL)).mono fun e W' ⟨hev, hb⟩ => ?_
  subst hev
  refine ⟨_, rfl, _, _, _, [], [], [], hW', ?_, ?_, ?_, hb.frame _, fun h => by cases h⟩
  · rw [e1]; exact trodAll_mk1 (shut_bool Tryz.underlying4 true)
  · rw [e1]; exact trodAll_mk2 (shut_bool Tryz.underlying4 b0) (shut_bool Tryz.underlying4 b1)
  · rw [e1]; rfl

set_option maxHeartbeats 4000000 in
theorem interpShort_row : Rows.InterpShortSaid :=
  OpenClaim.holds_of_wide 4 Tryz.f4 rfl rfl rfl rfl rfl rfl rfl ⟨rfl, rfl, rfl, rfl, rfl⟩ rfl rfl rfl rfl rfl (by as_aux_lemma => kernel_rfl) Tryz.func4 closed_factsS
    (of_decide_eq_true (by as_aux_lemma => kernel_rfl)) (by unfold Func.isWrapper; rw [if_neg (of_decide_eq_false (by kernel_rfl))]; exact ⟨rfl, rfl⟩)
    (fun os started H enc _ => interpShort_lifted os started H enc)

theorem interpShort_holds : Rows.InterpShortCardSaid :=
  Claim7.holds_tied_plain_at .later [] [.data, .data, .data, .handle, .data, .listed] true Rows.interpShortCard.stood.harness true
    interpShort_row (fun _ h => by cases h) (by as_aux_lemma => kernel_rfl) (fun _ h => by cases h) interpShort_row_tie rfl ⟨rfl, rfl⟩ (by as_aux_lemma => kernel_rfl) rfl
    (fun f fn hf hfn => by
      obtain rfl : f = 4 := Option.some.inj ((show Tryz.prog.funcNamed "coil/coillaw11.InterpShort" = some 4 by as_aux_lemma => kernel_rfl).symm.trans hf) |>.symm
      obtain rfl : fn = Tryz.f4 := (Option.some.inj (Tryz.func4.symm.trans hfn)).symm
      exact ⟨by as_aux_lemma => kernel_rfl, fun j t ht => by
        rw [Tryz.params4] at ht
        have h3 : t = 4 := by
          rcases j with _ | _ | j
          · simpa using ht.symm
          · simpa using ht.symm
          · simp at ht
        subst h3
        exact (show Tryz.prog.wantsStandIn 4 = false by as_aux_lemma => kernel_rfl)⟩)
    (goesBy_none no_goes rfl)
#print axioms interpShort_holds
end Go.Proofs.YtcfekhcdadldmaaGreatDoor
