/-
  Proved: coillaw2.SyntaxStmts answers true, whatever statements it is handed; the condition is that the three listed variables of the library hold what the program's text lays (the card ties them to it).
-/
import Derived.Test.YtmpbbmfbgcpplaaGreatDoorQLaid3
import Derived.Test.YtmpbbmfbgcpplaaGreatDoorQStmtsLaw
import Derived.Test.YtmpbbmfbgcpplaaGreatDoorQSizeG
import Derived.ChangeMaps5
import Derived.Carry
set_option maxRecDepth 100000
namespace Go.Proofs.YtmpbbmfbgcpplaaGreatDoor
open Go Go.ChangeShapes Go.WideShapes Go.ChangeAt Go.RowKit
theorem laidOut : laidOutB Tryz.prog = true := by kernel_rfl
theorem reach_one {H : Type} {t : TypeId} {d : DataW H} (h : (DataW.weightsEach Tryz.prog ([t] ++ []) ([d] ++ [])).all (· ≤ reachBytes) = true) : Reached t d := by
 rw [List.all_eq_true] at h
 exact fun n hn => of_decide_eq_true (h n (by simp only [List.cons_append, List.nil_append, DataW.weightsEach, List.mem_append]; exact Or.inl hn))
theorem zi1 (os : Os) (started : os.Started) (H : Type) (enc : TypeId × Value → H) :
  ReturnsInHanded {} Tryz.checked os 4 .any (fun w args => (Rows.syntaxStmtsSpec.pre enc Tryz.prog Tryz.f4 [] false w args ∧ laidMetH Tryz.prog laidL w) ∧ sizedMet enc Tryz.prog Tryz.f4 (OpenSpec.ofChange Rows.syntaxStmtsSpec) false w args)
   (Rows.syntaxStmtsSpec.post enc Tryz.prog Tryz.f4 false true false false) := by
 refine returnsInHanded_of_change_and (C := Tryz.checked) (X := fun w _ => laidMetH Tryz.prog laidL w) (fun _ _ _ hh h => h.of_heap hh) own started (by kernel_rfl) Tryz.func4
  (ChangeSpec.witness_shaped (enc := enc) (C := Tryz.checked) (os := os) (X := fun w _ => laidMetH Tryz.prog laidL w) false (World.doorLaid Tryz.prog 4000 os) #[.slice none 0 0] 8 rfl (World.shaped_of_RefB (by kernel_rfl) (by kernel_rfl)) (by kernel_rfl) (by kernel_rfl) (by kernel_rfl) (door_met os _)) ?_
 intro W base args ds gs before hval0 hW _ hsz hL _
 have hval : ∀ (j : Nat) t v, Tryz.f4.params[j]? = some t → args[j]? = some v → Value.okWide Tryz.prog W .any base t v := hval0
 have hW' := hW
 obtain ⟨p, q, hA0, hV, rfl, hfz, hnd⟩ := hW
 have hA : DataW.TrodAll enc Tryz.prog W 0 (fun _ => true) true Tryz.f4.params.toList args.toList ds p := hA0
 rw [Tryz.params4] at hA hval hsz
 obtain ⟨v0, d0, rfl, rfl, h0⟩ := trodAll_one hA
 obtain ⟨rfl, rfl⟩ := trodVars_none hV
 obtain ⟨a0, len0, cap0, rfl⟩ := okWide_slice Tryz.underlying40 (hval 0 40 v0 rfl rfl)
 obtain ⟨ht, h5⟩ := of_laid hL
 have w0 := reach_one hsz
 simp only [List.append_nil] at hW'
 have hlt : ∀ x ∈ p, x.block < W.heap.size := fun x hx => by simpa using hW'.lt x hx
 obtain ⟨k0, o0⟩ := open_stmts h0 w0
 obtain ⟨ss, rfl, r1, r2⟩ := o0 k0 (Nat.le_refl _)
 have e1 : Rows.syntaxStmtsSpec.fn H ([d0] ++ []) = { results := [.lit (.bool true)], args := [d0] } := rfl
 refine (zkg k0 k0 k0 ss a0 cap0 W r1 r2 ht h5).mono fun e W' ⟨hev, hb⟩ => ?_
 subst hev
 have harg0 := Below.trod laidOut (by kernel_rfl) (of_decide_eq_true (by kernel_rfl)) h0 hb hlt
 refine ⟨_, rfl, _, _, _, [], p, [], hW', ?_, ?_, ?_, hb.frame _, fun h => by cases h⟩
 ·rw [e1]; exact trodAll_mk1 (shut_bool Tryz.underlying4 true)
 ·rw [e1]; exact trodAll_mk1 harg0
 ·rw [e1]; rfl
theorem zlb : Rows.SyntaxStmtsSaid :=
 OpenClaim.holds_of_wide 4 Tryz.f4 rfl rfl rfl rfl rfl rfl rfl ⟨rfl, rfl, rfl, rfl, rfl⟩ rfl rfl rfl rfl rfl (by kernel_rfl) Tryz.func4 (by kernel_rfl)
  (of_decide_eq_true (by kernel_rfl)) (by unfold Func.isWrapper; rw [if_neg (of_decide_eq_false (by kernel_rfl))]; exact ⟨rfl, rfl⟩)
  (fun os started H enc _ => zi1 os started H enc)
theorem syntaxStmts_holds : Rows.SyntaxStmtsCardSaid :=
 Claim7.holds_tied_plain_at .later [] [.data, .data, .data] true Rows.syntaxStmtsCard.stood.harness false
  zlb (fun _ h => by cases h) (by kernel_rfl) (fun _ h => by cases h) syntaxStmts_row_tie rfl ⟨rfl, rfl⟩ (by kernel_rfl) rfl
  (fun f fn hf hfn => by
   obtain rfl : f = 4 := Option.some.inj ((show Tryz.prog.funcNamed "coil/coillaw2.SyntaxStmts" = some 4 by kernel_rfl).symm.trans hf) |>.symm
   obtain rfl : fn = Tryz.f4 := (Option.some.inj (Tryz.func4.symm.trans hfn)).symm
   exact ⟨by kernel_rfl, fun j t ht => by
    rw [Tryz.params4] at ht
    rcases j with _ | j
    ·have h3 : t = 40 := by simpa using ht.symm
     subst h3
     exact (show Tryz.prog.wantsStandIn 40 = false by kernel_rfl)
    ·simp at ht⟩)
  (by kernel_rfl)
#print axioms syntaxStmts_holds
end Go.Proofs.YtmpbbmfbgcpplaaGreatDoor
