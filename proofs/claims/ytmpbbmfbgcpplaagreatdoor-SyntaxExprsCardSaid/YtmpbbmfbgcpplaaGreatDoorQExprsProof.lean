/-
  Proved: coillaw2.SyntaxExprs answers true, whatever expression it is handed; the condition is that the three listed variables of the library hold what the program's text lays (the card ties them to it).
-/
import Derived.Test.YtmpbbmfbgcpplaaGreatDoorQLaid3
import Derived.Test.YtmpbbmfbgcpplaaGreatDoorQExprsLaw
import Derived.Test.YtmpbbmfbgcpplaaGreatDoorQSizeG
import Derived.ChangeMaps5
import Derived.Carry
namespace Go.Proofs.YtmpbbmfbgcpplaaGreatDoor
open Go Go.ChangeShapes Go.WideShapes Go.ChangeAt Go.RowKit

section
variable {H : Type} {enc : TypeId × Value → H} {W : World}
set_option maxRecDepth 100000 in
/-- an expression that was handed in: as a tree of every depth that is great enough. -/
theorem open_expr {cs : Array Value} {d : DataW H} {ps : List MemPlace} (h : DataW.Trod enc Tryz.prog W 0 (fun _ => true) true 28 (.agg cs) d ps) (hr : Reached 28 d) :
    ∃ k0 : Nat, ∀ k, k0 ≤ k → ∃ t : Ex k (k + 1), EV W k (k + 1) (.agg cs) t ∧ ExWf k (k + 1) [t] := by
  obtain ⟨fuel, hf⟩ := h
  refine ⟨fuel, fun k hk => ?_⟩
  have hf' := DataW.trod_le (show fuel ≤ 2 * k + 3 by omega) hf
  obtain ⟨t, vt, vn, vp, hcs, r1, r2, r3, rc, r4⟩ := open_ex_cells (Nat.le_refl k) (opens_ex k (Nat.le_refl k)) hf' hr
  have hcs' : cs.toList = [.int .i64 (xAt t), .int .i64 (xKind t), .int .i64 (xN t), .string ⟨(xS t).toArray⟩, vt, vn, vp] := hcs
  have hcs2 : cs = #[.int .i64 (xAt t), .int .i64 (xKind t), .int .i64 (xN t), .string ⟨(xS t).toArray⟩, vt, vn, vp] := by rw [← Array.toArray_toList (xs := cs), hcs']
  obtain ⟨pt, ct, rfl⟩ := r1.slice
  obtain ⟨pn, cn, rfl, h2⟩ := r2
  obtain ⟨pp, cp, rfl⟩ := r3.slice
  exact ⟨t, ⟨⟨pt, pn, pp, ct, cn, cp, by rw [hcs2], r1, ⟨pn, cn, rfl, h2⟩, r3⟩, ⟨_, _, _, _, _, _, _, by rw [hcs2], rc⟩⟩, by simp, by simpa using r4⟩
end
theorem laidOut : laidOutB Tryz.prog = true := by kernel_rfl
theorem reach_one {H : Type} {t : TypeId} {d : DataW H} (h : (DataW.weightsEach Tryz.prog ([t] ++ []) ([d] ++ [])).all (· ≤ reachBytes) = true) : Reached t d := by
  rw [List.all_eq_true] at h
  exact fun n hn => of_decide_eq_true (h n (by simp only [List.cons_append, List.nil_append, DataW.weightsEach, List.mem_append]; exact Or.inl hn))
set_option maxRecDepth 100000 in
theorem syntaxExprs_lifted (os : Os) (started : os.Started) (H : Type) (enc : TypeId × Value → H) :
    ReturnsInHanded {} Tryz.checked os 3 .any (fun w args => (Rows.syntaxExprsSpec.pre enc Tryz.prog Tryz.f3 [] false w args ∧ laidMetH Tryz.prog laidL w) ∧ sizedMet enc Tryz.prog Tryz.f3 (OpenSpec.ofChange Rows.syntaxExprsSpec) false w args)
      (Rows.syntaxExprsSpec.post enc Tryz.prog Tryz.f3 false true false false) := by
  refine returnsInHanded_of_change_and (C := Tryz.checked) (X := fun w _ => laidMetH Tryz.prog laidL w) (fun _ _ _ hh h => h.of_heap hh) own started (by kernel_rfl) Tryz.func3
    (ChangeSpec.witness_shaped (enc := enc) (C := Tryz.checked) (os := os) (X := fun w _ => laidMetH Tryz.prog laidL w) false (World.doorLaid Tryz.prog 4000 os) #[.agg #[.int .i64 0, .int .i64 0, .int .i64 0, .string ⟨#[]⟩, .slice none 0 0, .slice none 0 0, .slice none 0 0]] 8 rfl (World.shaped_of_RefB (by kernel_rfl) (by kernel_rfl)) (by kernel_rfl) (by kernel_rfl) (by kernel_rfl) (door_met os _)) ?_
  intro W base args ds gs before hval0 hW _ hsz hL _
  have hval : ∀ (j : Nat) t v, Tryz.f3.params[j]? = some t → args[j]? = some v → Value.okWide Tryz.prog W .any base t v := hval0
  have hW' := hW
  obtain ⟨p, q, hA0, hV, rfl, hfz, hnd⟩ := hW
  have hA : DataW.TrodAll enc Tryz.prog W 0 (fun _ => true) true Tryz.f3.params.toList args.toList ds p := hA0
  rw [Tryz.params3] at hA hval hsz
  obtain ⟨v0, d0, rfl, rfl, h0⟩ := trodAll_one hA
  obtain ⟨rfl, rfl⟩ := trodVars_none hV
  obtain ⟨cs0, rfl, _⟩ := okWide_struct Tryz.underlying28 (hval 0 28 v0 rfl rfl)
  obtain ⟨ht, h5⟩ := of_laid hL
  have w0 := reach_one hsz
  simp only [List.append_nil] at hW'
  have hlt : ∀ x ∈ p, x.block < W.heap.size := fun x hx => by simpa using hW'.lt x hx
  obtain ⟨k0, o0⟩ := open_expr h0 w0
  obtain ⟨a, hva, hwa⟩ := o0 k0 (Nat.le_refl _)
  have e1 : Rows.syntaxExprsSpec.fn H ([d0] ++ []) = { results := [.lit (.bool true)], args := [d0] } := rfl
  refine (SyntaxExprs_any k0 k0 a _ W hva hwa ht h5).mono fun e W' ⟨hev, hb⟩ => ?_
  subst hev
  have harg0 := Below.trod laidOut (by kernel_rfl) (of_decide_eq_true (by kernel_rfl)) h0 hb hlt
  refine ⟨_, rfl, _, _, _, [], p, [], hW', ?_, ?_, ?_, hb.frame _, fun h => by cases h⟩
  · rw [e1]; exact trodAll_mk1 (shut_bool Tryz.underlying4 true)
  · rw [e1]; exact trodAll_mk1 harg0
  · rw [e1]; rfl

theorem syntaxExprs_row : Rows.SyntaxExprsSaid :=
  OpenClaim.holds_of_wide 3 Tryz.f3 rfl rfl rfl rfl rfl rfl rfl ⟨rfl, rfl, rfl, rfl, rfl⟩ rfl rfl rfl rfl rfl (by kernel_rfl) Tryz.func3 (by kernel_rfl)
    (of_decide_eq_true (by kernel_rfl)) (by unfold Func.isWrapper; rw [if_neg (of_decide_eq_false (by kernel_rfl))]; exact ⟨rfl, rfl⟩)
    (fun os started H enc _ => syntaxExprs_lifted os started H enc)

theorem syntaxExprs_holds : Rows.SyntaxExprsCardSaid :=
  Claim7.holds_tied_plain_at .later [] [.data, .data, .data] true Rows.syntaxExprsCard.stood.harness false
    syntaxExprs_row (fun _ h => by cases h) (by kernel_rfl) (fun _ h => by cases h) syntaxExprs_row_tie rfl ⟨rfl, rfl⟩ (by kernel_rfl) rfl
    (fun f fn hf hfn => by
      obtain rfl : f = 3 := Option.some.inj ((show Tryz.prog.funcNamed "coil/coillaw2.SyntaxExprs" = some 3 by kernel_rfl).symm.trans hf) |>.symm
      obtain rfl : fn = Tryz.f3 := (Option.some.inj (Tryz.func3.symm.trans hfn)).symm
      exact ⟨by kernel_rfl, fun j t ht => by
        rw [Tryz.params3] at ht
        rcases j with _ | j
        · have h3 : t = 28 := by simpa using ht.symm
          subst h3
          exact (show Tryz.prog.wantsStandIn 28 = false by kernel_rfl)
        · simp at ht⟩)
    (by kernel_rfl)
#print axioms syntaxExprs_holds
end Go.Proofs.YtmpbbmfbgcpplaaGreatDoor
