/-
  Proved: coillaw2.SyntaxCounts answers true, whatever two types it is handed; the condition is that the three listed variables of the library hold what the program's text lays (the card ties them to it).
-/
import Derived.Test.YtcobnmjnhmcmkaaGreatDoorQLaid3
import Derived.Test.YtcobnmjnhmcmkaaGreatDoorQCountsLaw
import Derived.Test.YtcobnmjnhmcmkaaGreatDoorQKeepG
import Derived.ChangeMaps5
import Derived.Carry
namespace Go.Proofs.YtcobnmjnhmcmkaaGreatDoor
open Go Go.ChangeShapes Go.WideShapes Go.ChangeAt Go.RowKit

theorem laidOut : laidOutB Tryz.prog = true := by kernel_rfl
theorem reach_two {H : Type} {t u : TypeId} {d e : DataW H} (h : (DataW.weightsEach Tryz.prog ([t, u] ++ []) ([d, e] ++ [])).all (· ≤ reachBytes) = true) : Reached t d ∧ Reached u e := by
  rw [List.all_eq_true] at h
  refine ⟨fun n hn => ?_, fun n hn => ?_⟩
  · exact of_decide_eq_true (h n (by simp only [List.cons_append, List.nil_append, DataW.weightsEach, List.mem_append]; exact Or.inl hn))
  · exact of_decide_eq_true (h n (by simp only [List.cons_append, List.nil_append, DataW.weightsEach, List.mem_append]; exact Or.inr (Or.inl hn)))
set_option maxRecDepth 100000 in
theorem syntaxCounts_lifted (os : Os) (started : os.Started) (H : Type) (enc : TypeId × Value → H) :
    ReturnsInHanded {} Tryz.checked os 8 .any (fun w args => (Rows.syntaxCountsSpec.pre enc Tryz.prog Tryz.f8 [] false w args ∧ laidMetH Tryz.prog laidL w) ∧ sizedMet enc Tryz.prog Tryz.f8 (OpenSpec.ofChange Rows.syntaxCountsSpec) false w args)
      (Rows.syntaxCountsSpec.post enc Tryz.prog Tryz.f8 false true false false) := by
  refine returnsInHanded_of_change_and (C := Tryz.checked) (X := fun w _ => laidMetH Tryz.prog laidL w) (fun _ _ _ hh h => h.of_heap hh) own started (by kernel_rfl) Tryz.func8
    (ChangeSpec.witness_shaped (enc := enc) (C := Tryz.checked) (os := os) (X := fun w _ => laidMetH Tryz.prog laidL w) false (World.doorLaid Tryz.prog 4000 os) #[.agg #[.int .i64 0, .string ⟨#[]⟩, .slice none 0 0, .slice none 0 0, .slice none 0 0], .agg #[.int .i64 0, .string ⟨#[]⟩, .slice none 0 0, .slice none 0 0, .slice none 0 0]] 8 rfl (World.shaped_of_RefB (by kernel_rfl) (by kernel_rfl)) (by kernel_rfl) (by kernel_rfl) (by kernel_rfl) (door_met os _)) ?_
  intro W base args ds gs before hval0 hW _ hsz hL _
  have hval : ∀ (j : Nat) t v, Tryz.f8.params[j]? = some t → args[j]? = some v → Value.okWide Tryz.prog W .any base t v := hval0
  have hW' := hW
  obtain ⟨p, q, hA0, hV, rfl, hfz, hnd⟩ := hW
  have hA : DataW.TrodAll enc Tryz.prog W 0 (fun _ => true) true Tryz.f8.params.toList args.toList ds p := hA0
  rw [Tryz.params8] at hA hval hsz
  obtain ⟨v0, v1, d0, d1, p0, p1, rfl, rfl, rfl, h0, h1⟩ := trodAll_two hA
  obtain ⟨rfl, rfl⟩ := trodVars_none hV
  obtain ⟨cs0, rfl, _⟩ := okWide_struct Tryz.underlying26 (hval 0 26 v0 rfl rfl)
  obtain ⟨cs1, rfl, _⟩ := okWide_struct Tryz.underlying26 (hval 1 26 v1 rfl rfl)
  obtain ⟨ht, h5⟩ := of_laid hL
  obtain ⟨w0, w1⟩ := reach_two hsz
  simp only [List.append_nil] at hW'
  have hlt : ∀ x ∈ p0 ++ p1, x.block < W.heap.size := fun x hx => by simpa using hW'.lt x hx
  obtain ⟨k0, o0⟩ := open_type h0 w0
  obtain ⟨k1, o1⟩ := open_type h1 w1
  obtain ⟨a, pn, pe, pp, cn, ce, cp, e0, r1, r2, r3, r4⟩ := o0 (max k0 k1) (by omega)
  obtain ⟨b, pn', pe', pp', cn', ce', cp', e1', s1, s2, s3, s4⟩ := o1 (max k0 k1) (by omega)
  have e1 : Rows.syntaxCountsSpec.fn H ([d0, d1] ++ []) = { results := [.lit (.bool true)], args := [d0, d1] } := rfl
  refine (SyntaxCounts_any (max k0 k1) a b _ _ W ⟨pn, pe, pp, cn, ce, cp, e0, r1, r2, r3⟩ ⟨pn', pe', pp', cn', ce', cp', e1', s1, s2, s3⟩ ((TyWf.each r4).2 a (by simp)) ((TyWf.each s4).2 b (by simp)) ht h5).mono fun e W' ⟨hev, hb⟩ => ?_
  subst hev
  have harg0 := Below.trod laidOut (by kernel_rfl) (of_decide_eq_true (by kernel_rfl)) h0 hb (fun x hx => hlt x (List.mem_append_left _ hx))
  have harg1 := Below.trod laidOut (by kernel_rfl) (of_decide_eq_true (by kernel_rfl)) h1 hb (fun x hx => hlt x (List.mem_append_right _ hx))
  refine ⟨_, rfl, _, _, _, [], p0 ++ p1, [], hW', ?_, ?_, ?_, hb.frame _, fun h => by cases h⟩
  · rw [e1]; exact trodAll_mk1 (shut_bool Tryz.underlying4 true)
  · rw [e1]; exact trodAll_mk2 harg0 harg1
  · rw [e1]; rfl

theorem syntaxCounts_row : Rows.SyntaxCountsSaid :=
  OpenClaim.holds_of_wide 8 Tryz.f8 rfl rfl rfl rfl rfl rfl rfl ⟨rfl, rfl, rfl, rfl, rfl⟩ rfl rfl rfl rfl rfl (by kernel_rfl) Tryz.func8 (by kernel_rfl)
    (of_decide_eq_true (by kernel_rfl)) (by unfold Func.isWrapper; rw [if_neg (of_decide_eq_false (by kernel_rfl))]; exact ⟨rfl, rfl⟩)
    (fun os started H enc _ => syntaxCounts_lifted os started H enc)

theorem syntaxCounts_holds : Rows.SyntaxCountsCardSaid :=
  Claim7.holds_tied_plain_at .later [] [.data, .data, .data] true Rows.syntaxCountsCard.stood.harness false
    syntaxCounts_row (fun _ h => by cases h) (by kernel_rfl) (fun _ h => by cases h) syntaxCounts_row_tie rfl ⟨rfl, rfl⟩ (by kernel_rfl) rfl
    (fun f fn hf hfn => by
      obtain rfl : f = 8 := Option.some.inj ((show Tryz.prog.funcNamed "coil/coillaw2.SyntaxCounts" = some 8 by kernel_rfl).symm.trans hf) |>.symm
      obtain rfl : fn = Tryz.f8 := (Option.some.inj (Tryz.func8.symm.trans hfn)).symm
      exact ⟨by kernel_rfl, fun j t ht => by
        rw [Tryz.params8] at ht
        rcases j with _ | _ | j
        · have h3 : t = 26 := by simpa using ht.symm
          subst h3
          exact (show Tryz.prog.wantsStandIn 26 = false by kernel_rfl)
        · have h3 : t = 26 := by simpa using ht.symm
          subst h3
          exact (show Tryz.prog.wantsStandIn 26 = false by kernel_rfl)
        · simp at ht⟩)
    (by kernel_rfl)
#print axioms syntaxCounts_holds
end Go.Proofs.YtcobnmjnhmcmkaaGreatDoor
