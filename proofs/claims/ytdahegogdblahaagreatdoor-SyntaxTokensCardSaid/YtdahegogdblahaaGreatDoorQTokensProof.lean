/-
  Proved: coillaw2.SyntaxTokens answers true, whatever statements and type it is handed; the condition is that the three listed variables of the library hold what the program's text lays (the card ties them to it).
-/
import Derived.Test.YtdahegogdblahaaGreatDoorQLaid3
import Derived.Test.YtdahegogdblahaaGreatDoorQTokG
import Derived.Test.YtdahegogdblahaaGreatDoorQSizeG
import Derived.ChangeMaps5
import Derived.Carry
namespace Go.Proofs.YtdahegogdblahaaGreatDoor
open Go Go.ChangeShapes Go.WideShapes Go.ChangeAt Go.RowKit

theorem laidOut : laidOutB Tryz.prog = true := by kernel_rfl
theorem reach_two {H : Type} {t u : TypeId} {d e : DataW H} (h : (DataW.weightsEach Tryz.prog ([t, u] ++ []) ([d, e] ++ [])).all (· ≤ reachBytes) = true) : Reached t d ∧ Reached u e := by
  rw [List.all_eq_true] at h
  refine ⟨fun n hn => ?_, fun n hn => ?_⟩
  · exact of_decide_eq_true (h n (by simp only [List.cons_append, List.nil_append, DataW.weightsEach, List.mem_append]; exact Or.inl hn))
  · exact of_decide_eq_true (h n (by simp only [List.cons_append, List.nil_append, DataW.weightsEach, List.mem_append]; exact Or.inr (Or.inl hn)))
set_option maxRecDepth 100000 in
theorem syntaxTokens_lifted (os : Os) (started : os.Started) (H : Type) (enc : TypeId × Value → H) :
    ReturnsInHanded {} Tryz.checked os 3 .any (fun w args => (Rows.syntaxTokensSpec.pre enc Tryz.prog Tryz.f3 [] false w args ∧ laidMetH Tryz.prog laidL w) ∧ sizedMet enc Tryz.prog Tryz.f3 (OpenSpec.ofChange Rows.syntaxTokensSpec) false w args)
      (Rows.syntaxTokensSpec.post enc Tryz.prog Tryz.f3 false true false false) := by
  refine returnsInHanded_of_change_and (C := Tryz.checked) (X := fun w _ => laidMetH Tryz.prog laidL w) (fun _ _ _ hh h => h.of_heap hh) own started (by kernel_rfl) Tryz.func3
    (ChangeSpec.witness_shaped (enc := enc) (C := Tryz.checked) (os := os) (X := fun w _ => laidMetH Tryz.prog laidL w) false (World.doorLaid Tryz.prog 4000 os) #[.slice none 0 0, .agg #[.int .i64 0, .string ⟨#[]⟩, .slice none 0 0, .slice none 0 0, .slice none 0 0]] 8 rfl (World.shaped_of_RefB (by kernel_rfl) (by kernel_rfl)) (by kernel_rfl) (by kernel_rfl) (by kernel_rfl) (door_met os _)) ?_
  intro W base args ds gs before hval0 hW _ hsz hL _
  have hval : ∀ (j : Nat) t v, Tryz.f3.params[j]? = some t → args[j]? = some v → Value.okWide Tryz.prog W .any base t v := hval0
  have hW' := hW
  obtain ⟨p, q, hA0, hV, rfl, hfz, hnd⟩ := hW
  have hA : DataW.TrodAll enc Tryz.prog W 0 (fun _ => true) true Tryz.f3.params.toList args.toList ds p := hA0
  rw [Tryz.params3] at hA hval hsz
  obtain ⟨v0, v1, d0, d1, p0, p1, rfl, rfl, rfl, h0, h1⟩ := trodAll_two hA
  obtain ⟨rfl, rfl⟩ := trodVars_none hV
  obtain ⟨a0, len0, cap0, rfl⟩ := okWide_slice Tryz.underlying22 (hval 0 22 v0 rfl rfl)
  obtain ⟨cs1, rfl, _⟩ := okWide_struct Tryz.underlying27 (hval 1 27 v1 rfl rfl)
  obtain ⟨ht, h5⟩ := of_laid hL
  obtain ⟨w0, w1⟩ := reach_two hsz
  simp only [List.append_nil] at hW'
  have hlt : ∀ x ∈ p0 ++ p1, x.block < W.heap.size := fun x hx => by simpa using hW'.lt x hx
  obtain ⟨k0, o0⟩ := open_stmts h0 w0
  obtain ⟨k1, o1⟩ := open_type h1 w1
  obtain ⟨ss, rfl, r1, r2⟩ := o0 (k0 + 1) (by omega)
  obtain ⟨b, pn', pe', pp', cn', ce', cp', e1', s1, s2, s3, s4⟩ := o1 k1 (Nat.le_refl _)
  have e1 : Rows.syntaxTokensSpec.fn H ([d0, d1] ++ []) = { results := [.lit (.bool true)], args := [d0, d1] } := rfl
  refine (SyntaxTokens_any (k0 + 1) k0 k1 ss b a0 cap0 _ W r1 r2 ⟨pn', pe', pp', cn', ce', cp', e1', s1, s2, s3⟩ ((TyWf.each s4).2 b (by simp)) ht h5).mono fun e W' ⟨hev, hb⟩ => ?_
  subst hev
  have harg0 := Below.trod laidOut (by kernel_rfl) (of_decide_eq_true (by kernel_rfl)) h0 hb (fun x hx => hlt x (List.mem_append_left _ hx))
  have harg1 := Below.trod laidOut (by kernel_rfl) (of_decide_eq_true (by kernel_rfl)) h1 hb (fun x hx => hlt x (List.mem_append_right _ hx))
  refine ⟨_, rfl, _, _, _, [], p0 ++ p1, [], hW', ?_, ?_, ?_, hb.frame _, fun h => by cases h⟩
  · rw [e1]; exact trodAll_mk1 (shut_bool Tryz.underlying4 true)
  · rw [e1]; exact trodAll_mk2 harg0 harg1
  · rw [e1]; rfl

theorem syntaxTokens_row : Rows.SyntaxTokensSaid :=
  OpenClaim.holds_of_wide 3 Tryz.f3 rfl rfl rfl rfl rfl rfl rfl ⟨rfl, rfl, rfl, rfl, rfl⟩ rfl rfl rfl rfl rfl (by kernel_rfl) Tryz.func3 (by kernel_rfl)
    (of_decide_eq_true (by kernel_rfl)) (by unfold Func.isWrapper; rw [if_neg (of_decide_eq_false (by kernel_rfl))]; exact ⟨rfl, rfl⟩)
    (fun os started H enc _ => syntaxTokens_lifted os started H enc)

theorem syntaxTokens_holds : Rows.SyntaxTokensCardSaid :=
  Claim7.holds_tied_plain_at .later [] [.data, .data, .data] true Rows.syntaxTokensCard.stood.harness false
    syntaxTokens_row (fun _ h => by cases h) (by kernel_rfl) (fun _ h => by cases h) syntaxTokens_row_tie rfl ⟨rfl, rfl⟩ (by kernel_rfl) rfl
    (fun f fn hf hfn => by
      obtain rfl : f = 3 := Option.some.inj ((show Tryz.prog.funcNamed "coil/coillaw2.SyntaxTokens" = some 3 by kernel_rfl).symm.trans hf) |>.symm
      obtain rfl : fn = Tryz.f3 := (Option.some.inj (Tryz.func3.symm.trans hfn)).symm
      exact ⟨by kernel_rfl, fun j t ht => by
        rw [Tryz.params3] at ht
        rcases j with _ | _ | j
        · have h3 : t = 22 := by simpa using ht.symm
          subst h3
          exact (show Tryz.prog.wantsStandIn 22 = false by kernel_rfl)
        · have h3 : t = 27 := by simpa using ht.symm
          subst h3
          exact (show Tryz.prog.wantsStandIn 27 = false by kernel_rfl)
        · simp at ht⟩)
    (by kernel_rfl)
#print axioms syntaxTokens_holds
end Go.Proofs.YtdahegogdblahaaGreatDoor
