/-
  What the listed variables of Go's library hold, and a start that fits.
-/
import Derived.Test.YtcfekhcdadldmaaGreatDoorRows
import Derived.Test.YtcfekhcdadldmaaGreatDoorRTie
import Derived.Test.YtcfekhcdadldmaaGreatDoorCards
import Derived.Test.YtcfekhcdadldmaaGreatDoorAmLd
import Derived.ProofKit
import Derived.LaidMore
import Derived.LaidOnce
import Derived.LaidHandle
import Derived.LaidLaws
import Derived.OpenShut
import Derived.Stop.Joined
import Derived.SevenTiedAt
namespace Go.Proofs.YtcfekhcdadldmaaGreatDoor
open Go Go.ChangeShapes Go.WideShapes Go.ChangeAt Go.RowKit Am
set_option maxHeartbeats 8000000
set_option maxRecDepth 100000

abbrev laidL : List (String × DataW Unit) := [("internal/strconv.uint64pow10", Rows.laid_internal_strconv_uint64pow10), ("math/bits.deBruijn32tab", Rows.laid_math_bits_deBruijn32tab), ("math/bits.deBruijn64tab", Rows.laid_math_bits_deBruijn64tab), ("errors.errorType", Rows.laid_errors_errorType), ("strings.asciiSpace", Rows.laid_strings_asciiSpace), ("unicode.White_Space", Rows.laid_unicode_White_Space)]
theorem own : ownKnob Tryz.prog.godebug = none := by kernel_rfl
theorem dt0 : (Rows.laid_internal_strconv_uint64pow10 : DataW Unit) = Lib.tabData .u64 (List.map Int.ofNat [1, 10, 100, 1000, 10000, 100000, 1000000, 10000000, 100000000, 1000000000, 10000000000, 100000000000, 1000000000000, 10000000000000, 100000000000000, 1000000000000000, 10000000000000000, 100000000000000000, 1000000000000000000, 10000000000000000000]) := by kernel_rfl
theorem dt1 : (Rows.laid_math_bits_deBruijn32tab : DataW Unit) = Lib.tabData .u8 (List.map Int.ofNat [0, 1, 28, 2, 29, 14, 24, 3, 30, 22, 20, 15, 25, 17, 4, 8, 31, 27, 13, 23, 21, 19, 16, 7, 26, 12, 18, 6, 11, 5, 10, 9]) := by kernel_rfl
theorem dt2 : (Rows.laid_math_bits_deBruijn64tab : DataW Unit) = Lib.tabData .u8 (List.map Int.ofNat [0, 1, 56, 2, 57, 49, 28, 3, 61, 58, 42, 50, 38, 29, 17, 4, 62, 47, 59, 36, 45, 43, 51, 22, 53, 39, 33, 30, 24, 18, 12, 5, 63, 55, 48, 27, 60, 41, 37, 16, 46, 35, 44, 21, 52, 32, 23, 11, 54, 26, 40, 15, 34, 20, 31, 10, 25, 14, 19, 9, 13, 8, 7, 6]) := by kernel_rfl
theorem dt3 : (Rows.laid_strings_asciiSpace : DataW Unit) = Lib.tabData .u8 (List.map Int.ofNat [0, 0, 0, 0, 0, 0, 0, 0, 0, 1, 1, 1, 1, 1, 0, 0, 0, 0, 0, 0, 0, 0, 0, 0, 0, 0, 0, 0, 0, 0, 0, 0, 1, 0, 0, 0, 0, 0, 0, 0, 0, 0, 0, 0, 0, 0, 0, 0, 0, 0, 0, 0, 0, 0, 0, 0, 0, 0, 0, 0, 0, 0, 0, 0, 0, 0, 0, 0, 0, 0, 0, 0, 0, 0, 0, 0, 0, 0, 0, 0, 0, 0, 0, 0, 0, 0, 0, 0, 0, 0, 0, 0, 0, 0, 0, 0, 0, 0, 0, 0, 0, 0, 0, 0, 0, 0, 0, 0, 0, 0, 0, 0, 0, 0, 0, 0, 0, 0, 0, 0, 0, 0, 0, 0, 0, 0, 0, 0, 0, 0, 0, 0, 0, 0, 0, 0, 0, 0, 0, 0, 0, 0, 0, 0, 0, 0, 0, 0, 0, 0, 0, 0, 0, 0, 0, 0, 0, 0, 0, 0, 0, 0, 0, 0, 0, 0, 0, 0, 0, 0, 0, 0, 0, 0, 0, 0, 0, 0, 0, 0, 0, 0, 0, 0, 0, 0, 0, 0, 0, 0, 0, 0, 0, 0, 0, 0, 0, 0, 0, 0, 0, 0, 0, 0, 0, 0, 0, 0, 0, 0, 0, 0, 0, 0, 0, 0, 0, 0, 0, 0, 0, 0, 0, 0, 0, 0, 0, 0, 0, 0, 0, 0, 0, 0, 0, 0, 0, 0, 0, 0, 0, 0, 0, 0, 0, 0, 0, 0, 0, 0, 0, 0, 0, 0, 0, 0]) := by kernel_rfl
theorem g_err : Tryz.prog.globalNamed "errors.errorType" = some 0 := by kernel_rfl
theorem rt_no : (Tryz.prog.cutTypes.find? (·.1 == "internal/reflectlite.rtype")).map (·.2) = some 356 := by kernel_rfl
theorem one_row : ((List.range Tryz.prog.types.size).filter fun t => Tryz.prog.rowNamed t [101, 114, 114, 111, 114]) = [43] := by kernel_rfl
/-- The tables lie as the evaluator takes them. -/
theorem glob_ok {W : World} (h : laidMetH Tryz.prog laidL W) : GlobOk W := by
  have h2 : laidMet Tryz.prog [("internal/strconv.uint64pow10", Rows.laid_internal_strconv_uint64pow10), ("math/bits.deBruijn32tab", Rows.laid_math_bits_deBruijn32tab), ("math/bits.deBruijn64tab", Rows.laid_math_bits_deBruijn64tab), ("strings.asciiSpace", Rows.laid_strings_asciiSpace), ("unicode.White_Space", Rows.laid_unicode_White_Space)] W ∧ handlesMet Tryz.prog [("errors.errorType", Rows.laid_errors_errorType)] W := h
  obtain ⟨h', hh⟩ := h2
  obtain ⟨ps, ⟨g0, t0, cs0, f0, p0, q0, hg0, ht0, hv0, hd0, ⟨g1, t1, cs1, f1, p1, q1, hg1, ht1, hv1, hd1, ⟨g2, t2, cs2, f2, p2, q2, hg2, ht2, hv2, hd2, ⟨g3, t3, cs3, f3, p3, q3, hg3, ht3, hv3, hd3, ⟨g4, t4, cs4, f4, p4, q4, hg4, ht4, hv4, hd4, _, _⟩, _⟩, _⟩, _⟩, _⟩, _, _⟩ := h'
  obtain rfl := Option.some.inj ((show Tryz.prog.globalNamed "internal/strconv.uint64pow10" = some 3 by kernel_rfl).symm.trans hg0)
  obtain rfl := Option.some.inj ((show (Tryz.prog.globals[3]?).map (·.type) = some 484 by kernel_rfl).symm.trans ht0)
  rw [dt0] at hd0
  have k0 := tab_ok hg0 hv0 Tryz.underlying484 Tryz.underlying397 (by kernel_rfl) (by kernel_rfl) hd0
  obtain rfl := Option.some.inj ((show Tryz.prog.globalNamed "math/bits.deBruijn32tab" = some 4 by kernel_rfl).symm.trans hg1)
  obtain rfl := Option.some.inj ((show (Tryz.prog.globals[4]?).map (·.type) = some 573 by kernel_rfl).symm.trans ht1)
  rw [dt1] at hd1
  have k1 := tab_ok hg1 hv1 Tryz.underlying573 Tryz.underlying5 (by kernel_rfl) (by kernel_rfl) hd1
  obtain rfl := Option.some.inj ((show Tryz.prog.globalNamed "math/bits.deBruijn64tab" = some 5 by kernel_rfl).symm.trans hg2)
  obtain rfl := Option.some.inj ((show (Tryz.prog.globals[5]?).map (·.type) = some 574 by kernel_rfl).symm.trans ht2)
  rw [dt2] at hd2
  have k2 := tab_ok hg2 hv2 Tryz.underlying574 Tryz.underlying5 (by kernel_rfl) (by kernel_rfl) hd2
  obtain rfl := Option.some.inj ((show Tryz.prog.globalNamed "strings.asciiSpace" = some 1 by kernel_rfl).symm.trans hg3)
  obtain rfl := Option.some.inj ((show (Tryz.prog.globals[1]?).map (·.type) = some 384 by kernel_rfl).symm.trans ht3)
  rw [dt3] at hd3
  have k3 := tab_ok hg3 hv3 Tryz.underlying384 Tryz.underlying5 (by kernel_rfl) (by kernel_rfl) hd3
  refine ⟨?_, fun g cs hg => ?_, fun g hg => by unfold gifc at hg; cases hg⟩
  rotate_left
  · unfold gobj at hg
    cases b : Nat.beq g 0 with
    | false => rw [b] at hg; cases hg
    | true =>
      rw [b] at hg
      obtain rfl := Option.some.inj hg
      obtain rfl := Nat.eq_of_beq_eq_true b
      obtain ⟨name, u, ty, e1, e2, e3, e4, e5⟩ := hh _ (List.mem_singleton.2 rfl)
      have en : name = [101, 114, 114, 111, 114] := (Option.some.inj e1).symm
      subst en
      obtain rfl := Option.some.inj (rt_no.symm.trans e2)
      have hm : ty ∈ (List.range Tryz.prog.types.size).filter fun t => Tryz.prog.rowNamed t [101, 114, 114, 111, 114] := List.mem_filter.2 ⟨List.mem_range.2 e3, e4⟩
      rw [one_row] at hm
      obtain rfl := List.mem_singleton.1 hm
      rw [show typeHandle Tryz.prog 43 = .pointer (some ⟨8, 43, none⟩) by kernel_rfl] at e5
      exact obj_ok g_err e5
  intro g cs hg
  unfold gtab at hg
  cases b3 : Nat.beq g 1 with
  | true =>
    rw [b3] at hg
    obtain rfl := Option.some.inj hg
    obtain rfl := Nat.eq_of_beq_eq_true b3
    exact k3
  | false =>
    rw [b3] at hg
    simp only [cond_false] at hg
    cases b0 : Nat.beq g 3 with
    | true =>
      rw [b0] at hg
      obtain rfl := Option.some.inj hg
      obtain rfl := Nat.eq_of_beq_eq_true b0
      exact k0
    | false =>
      rw [b0] at hg
      simp only [cond_false] at hg
      cases b1 : Nat.beq g 4 with
      | true =>
        rw [b1] at hg
        obtain rfl := Option.some.inj hg
        obtain rfl := Nat.eq_of_beq_eq_true b1
        exact k1
      | false =>
        rw [b1] at hg
        simp only [cond_false] at hg
        cases b2 : Nat.beq g 5 with
        | true =>
          rw [b2] at hg
          obtain rfl := Option.some.inj hg
          obtain rfl := Nat.eq_of_beq_eq_true b2
          exact k2
        | false =>
          rw [b2] at hg
          simp only [cond_false] at hg
          cases hg
/-- What is read of the listed variables, if no place is read twice (told by a set of bits) and all rows are plain. -/
def metB (P : Program) (w : World) (fuel M : Nat) (l : List (String × DataW Unit)) : Option (List (String × DataW Unit)) := (DataW.laidRun P w fuel (l.map (·.1))).bind fun x => if nodupBits M x.2 0 && laidRowsB P w x.2 then some x.1 else none
theorem met_of_B {P : Program} {w : World} {fuel M : Nat} {l : List (String × DataW Unit)} (h : metB P w fuel M l = some l) : laidMet P l w := by
  unfold metB at h
  simp only [Option.bind_eq_some_iff] at h
  obtain ⟨x, hx, h⟩ := h
  split at h
  · rename_i hb
    simp only [Bool.and_eq_true] at hb
    have e := Option.some.inj h
    refine laidMet_of_run (ps := x.2) fuel ?_ (decide_eq_true (nodupBits_sound hb.1).1) hb.2
    rw [hx, ← e]
  · cases h
/-- A start that fits: the heap that the variables' own initialisers leave. -/
theorem door_met (os : Os) (args : Array Value) : laidMetH Tryz.prog laidL ((World.doorLaid Tryz.prog 4000 os).forCall (fun _ _ => 0) ⟨#[], args, []⟩).memory :=
  laidMetH_of_parts (met_of_B (fuel := 8) (M := 300) (by as_aux_lemma => kernel_rfl)) (by as_aux_lemma => kernel_rfl)
end Go.Proofs.YtcfekhcdadldmaaGreatDoor
