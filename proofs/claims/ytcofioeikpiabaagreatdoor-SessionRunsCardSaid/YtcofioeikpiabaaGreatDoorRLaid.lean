/-
  What the listed variables of Go's library hold, and a start that fits.
-/
import Derived.Test.YtcofioeikpiabaaGreatDoorRows
import Derived.Test.YtcofioeikpiabaaGreatDoorRLn
import Derived.Test.YtcofioeikpiabaaGreatDoorCards
import Derived.Test.YtcofioeikpiabaaGreatDoorAmLd
import Derived.ProofKit
import Derived.LaidMore
import Derived.LaidOnce
import Derived.LaidHandle
import Derived.LaidLaws
import Derived.Stop.LaidErr
import Derived.OpenShut
import Derived.Stop.Joined
import Derived.SevenTiedAt
namespace Go.Proofs.YtcofioeikpiabaaGreatDoor
open Go Go.ChangeShapes Go.WideShapes Go.ChangeAt Go.RowKit Am
set_option maxHeartbeats 8000000
set_option maxRecDepth 100000

abbrev laidL : List (String × DataW Unit) := [("errors.errorType", Rows.laid_errors_errorType), ("internal/strconv.uint64pow10", Rows.laid_internal_strconv_uint64pow10), ("math/bits.deBruijn32tab", Rows.laid_math_bits_deBruijn32tab), ("math/bits.deBruijn64tab", Rows.laid_math_bits_deBruijn64tab), ("unicode/utf8.first", Rows.laid_unicode_utf8_first), ("unicode/utf8.acceptRanges", Rows.laid_unicode_utf8_acceptRanges), ("strings.asciiSpace", Rows.laid_strings_asciiSpace), ("unicode.White_Space", Rows.laid_unicode_White_Space), ("strconv.ErrSyntax", Rows.laid_strconv_ErrSyntax), ("strconv.ErrRange", Rows.laid_strconv_ErrRange)]
theorem own : ownKnob Tryz.prog.godebug = none := by kernel_rfl
theorem dt0 : (Rows.laid_internal_strconv_uint64pow10 : DataW Unit) = Lib.tabData .u64 (List.map Int.ofNat [1, 10, 100, 1000, 10000, 100000, 1000000, 10000000, 100000000, 1000000000, 10000000000, 100000000000, 1000000000000, 10000000000000, 100000000000000, 1000000000000000, 10000000000000000, 100000000000000000, 1000000000000000000, 10000000000000000000]) := by kernel_rfl
theorem dt1 : (Rows.laid_math_bits_deBruijn32tab : DataW Unit) = Lib.tabData .u8 (List.map Int.ofNat [0, 1, 28, 2, 29, 14, 24, 3, 30, 22, 20, 15, 25, 17, 4, 8, 31, 27, 13, 23, 21, 19, 16, 7, 26, 12, 18, 6, 11, 5, 10, 9]) := by kernel_rfl
theorem dt2 : (Rows.laid_math_bits_deBruijn64tab : DataW Unit) = Lib.tabData .u8 (List.map Int.ofNat [0, 1, 56, 2, 57, 49, 28, 3, 61, 58, 42, 50, 38, 29, 17, 4, 62, 47, 59, 36, 45, 43, 51, 22, 53, 39, 33, 30, 24, 18, 12, 5, 63, 55, 48, 27, 60, 41, 37, 16, 46, 35, 44, 21, 52, 32, 23, 11, 54, 26, 40, 15, 34, 20, 31, 10, 25, 14, 19, 9, 13, 8, 7, 6]) := by kernel_rfl
theorem dt5 : (Rows.laid_strings_asciiSpace : DataW Unit) = Lib.tabData .u8 (List.map Int.ofNat [0, 0, 0, 0, 0, 0, 0, 0, 0, 1, 1, 1, 1, 1, 0, 0, 0, 0, 0, 0, 0, 0, 0, 0, 0, 0, 0, 0, 0, 0, 0, 0, 1, 0, 0, 0, 0, 0, 0, 0, 0, 0, 0, 0, 0, 0, 0, 0, 0, 0, 0, 0, 0, 0, 0, 0, 0, 0, 0, 0, 0, 0, 0, 0, 0, 0, 0, 0, 0, 0, 0, 0, 0, 0, 0, 0, 0, 0, 0, 0, 0, 0, 0, 0, 0, 0, 0, 0, 0, 0, 0, 0, 0, 0, 0, 0, 0, 0, 0, 0, 0, 0, 0, 0, 0, 0, 0, 0, 0, 0, 0, 0, 0, 0, 0, 0, 0, 0, 0, 0, 0, 0, 0, 0, 0, 0, 0, 0, 0, 0, 0, 0, 0, 0, 0, 0, 0, 0, 0, 0, 0, 0, 0, 0, 0, 0, 0, 0, 0, 0, 0, 0, 0, 0, 0, 0, 0, 0, 0, 0, 0, 0, 0, 0, 0, 0, 0, 0, 0, 0, 0, 0, 0, 0, 0, 0, 0, 0, 0, 0, 0, 0, 0, 0, 0, 0, 0, 0, 0, 0, 0, 0, 0, 0, 0, 0, 0, 0, 0, 0, 0, 0, 0, 0, 0, 0, 0, 0, 0, 0, 0, 0, 0, 0, 0, 0, 0, 0, 0, 0, 0, 0, 0, 0, 0, 0, 0, 0, 0, 0, 0, 0, 0, 0, 0, 0, 0, 0, 0, 0, 0, 0, 0, 0, 0, 0, 0, 0, 0, 0, 0, 0, 0, 0, 0, 0]) := by kernel_rfl
theorem g_err : Tryz.prog.globalNamed "errors.errorType" = some 0 := by kernel_rfl
theorem rt_no : (Tryz.prog.cutTypes.find? (·.1 == "internal/reflectlite.rtype")).map (·.2) = some 195 := by kernel_rfl
theorem es_star : "*" ++ "errors.errorString" = "*errors.errorString" := by decide
theorem es_row (u : TypeId) (h : Tryz.prog.typeName? 3 u = some "*errors.errorString") : u = 838 :=
  typeName_ptr_named (nm := "errors.errorString") (by rw [es_star]; exact es_p_all) es_n_all (by decide) u (by rw [es_star]; exact h)
/-- The tables lie as the evaluator takes them. -/
theorem glob_ok {W : World} (h : laidMetH Tryz.prog laidL W) : GlobOk W := by
  have h2 : laidMet Tryz.prog [("internal/strconv.uint64pow10", Rows.laid_internal_strconv_uint64pow10), ("math/bits.deBruijn32tab", Rows.laid_math_bits_deBruijn32tab), ("math/bits.deBruijn64tab", Rows.laid_math_bits_deBruijn64tab), ("unicode/utf8.first", Rows.laid_unicode_utf8_first), ("unicode/utf8.acceptRanges", Rows.laid_unicode_utf8_acceptRanges), ("strings.asciiSpace", Rows.laid_strings_asciiSpace), ("unicode.White_Space", Rows.laid_unicode_White_Space), ("strconv.ErrSyntax", Rows.laid_strconv_ErrSyntax), ("strconv.ErrRange", Rows.laid_strconv_ErrRange)] W ∧ handlesMet Tryz.prog [("errors.errorType", Rows.laid_errors_errorType)] W := h
  obtain ⟨h', hh⟩ := h2
  obtain ⟨sa_ErrSyntax, ss_ErrSyntax, hs_ErrSyntax, _⟩ := laid_sentinel (laidMet.tail (laidMet.tail (laidMet.tail (laidMet.tail (laidMet.tail (laidMet.tail (laidMet.tail (h')))))))) (show Tryz.prog.globalNamed "strconv.ErrSyntax" = some 6 by kernel_rfl) (show (Tryz.prog.globals[6]?).map (·.type) = some 44 by kernel_rfl) Tryz.underlying44 es_row Tryz.underlying838 Tryz.underlying840 rfl rfl Tryz.underlying9 (by kernel_rfl) (by kernel_rfl)
  obtain ⟨ps, ⟨g0, t0, cs0, f0, p0, q0, hg0, ht0, hv0, hd0, ⟨g1, t1, cs1, f1, p1, q1, hg1, ht1, hv1, hd1, ⟨g2, t2, cs2, f2, p2, q2, hg2, ht2, hv2, hd2, ⟨g3, t3, cs3, f3, p3, q3, hg3, ht3, hv3, hd3, ⟨g4, t4, cs4, f4, p4, q4, hg4, ht4, hv4, hd4, ⟨g5, t5, cs5, f5, p5, q5, hg5, ht5, hv5, hd5, ⟨g6, t6, cs6, f6, p6, q6, hg6, ht6, hv6, hd6, ⟨g7, t7, cs7, f7, p7, q7, hg7, ht7, hv7, hd7, ⟨g8, t8, cs8, f8, p8, q8, hg8, ht8, hv8, hd8, _, _⟩, _⟩, _⟩, _⟩, _⟩, _⟩, _⟩, _⟩, _⟩, _, _⟩ := h'
  obtain rfl := Option.some.inj ((show Tryz.prog.globalNamed "internal/strconv.uint64pow10" = some 2 by kernel_rfl).symm.trans hg0)
  obtain rfl := Option.some.inj ((show (Tryz.prog.globals[2]?).map (·.type) = some 511 by kernel_rfl).symm.trans ht0)
  rw [dt0] at hd0
  have k0 := tab_ok hg0 hv0 Tryz.underlying511 Tryz.underlying351 (by kernel_rfl) (by kernel_rfl) hd0
  obtain rfl := Option.some.inj ((show Tryz.prog.globalNamed "math/bits.deBruijn32tab" = some 8 by kernel_rfl).symm.trans hg1)
  obtain rfl := Option.some.inj ((show (Tryz.prog.globals[8]?).map (·.type) = some 742 by kernel_rfl).symm.trans ht1)
  rw [dt1] at hd1
  have k1 := tab_ok hg1 hv1 Tryz.underlying742 Tryz.underlying5 (by kernel_rfl) (by kernel_rfl) hd1
  obtain rfl := Option.some.inj ((show Tryz.prog.globalNamed "math/bits.deBruijn64tab" = some 9 by kernel_rfl).symm.trans hg2)
  obtain rfl := Option.some.inj ((show (Tryz.prog.globals[9]?).map (·.type) = some 743 by kernel_rfl).symm.trans ht2)
  rw [dt2] at hd2
  have k2 := tab_ok hg2 hv2 Tryz.underlying743 Tryz.underlying5 (by kernel_rfl) (by kernel_rfl) hd2
  obtain rfl := Option.some.inj ((show Tryz.prog.globalNamed "strings.asciiSpace" = some 5 by kernel_rfl).symm.trans hg5)
  obtain rfl := Option.some.inj ((show (Tryz.prog.globals[5]?).map (·.type) = some 515 by kernel_rfl).symm.trans ht5)
  rw [dt5] at hd5
  have k5 := tab_ok hg5 hv5 Tryz.underlying515 Tryz.underlying5 (by kernel_rfl) (by kernel_rfl) hd5
  refine ⟨?_, fun g cs hg => ?_, fun g hg => by
    unfold gifc at hg
    cases b : Nat.beq g 6 with
    | true =>
      obtain rfl := Nat.eq_of_beq_eq_true b
      obtain ⟨c, e, f, h1, h2⟩ := obj_ok (show Tryz.prog.globalNamed "strconv.ErrSyntax" = some 6 by kernel_rfl) hs_ErrSyntax
      obtain rfl := Array.toList_inj.1 h2
      exact ⟨_, _, _, _, h1⟩
    | false =>
    rw [b] at hg
    cases hg⟩
  rotate_left
  · unfold gobj at hg
    cases b : Nat.beq g 0 with
    | false => rw [b] at hg; cases hg
    | true =>
      rw [b] at hg
      obtain rfl := Option.some.inj hg
      obtain rfl := Nat.eq_of_beq_eq_true b
      obtain ⟨name, u, ty, e1, e2, e3, e4, e5⟩ := hh _ (List.mem_singleton.2 rfl)
      have en : name = [101, 114, 114, 111, 114] := (Option.some.inj e1).symm
      subst en
      obtain rfl := Option.some.inj (rt_no.symm.trans e2)
      have hm : ty ∈ (List.range Tryz.prog.types.size).filter fun t => Tryz.prog.rowNamed t [101, 114, 114, 111, 114] := List.mem_filter.2 ⟨List.mem_range.2 e3, e4⟩
      rw [one_row] at hm
      obtain rfl := List.mem_singleton.1 hm
      rw [show typeHandle Tryz.prog 44 = .pointer (some ⟨12, 44, none⟩) by kernel_rfl] at e5
      exact obj_ok g_err e5
  intro g cs hg
  unfold gtab at hg
  cases b0 : Nat.beq g 2 with
  | true =>
    rw [b0] at hg
    obtain rfl := Option.some.inj hg
    obtain rfl := Nat.eq_of_beq_eq_true b0
    exact k0
  | false =>
    rw [b0] at hg
    simp only [cond_false] at hg
    cases b5 : Nat.beq g 5 with
    | true =>
      rw [b5] at hg
      obtain rfl := Option.some.inj hg
      obtain rfl := Nat.eq_of_beq_eq_true b5
      exact k5
    | false =>
      rw [b5] at hg
      simp only [cond_false] at hg
      cases b1 : Nat.beq g 8 with
      | true =>
        rw [b1] at hg
        obtain rfl := Option.some.inj hg
        obtain rfl := Nat.eq_of_beq_eq_true b1
        exact k1
      | false =>
        rw [b1] at hg
        simp only [cond_false] at hg
        cases b2 : Nat.beq g 9 with
        | true =>
          rw [b2] at hg
          obtain rfl := Option.some.inj hg
          obtain rfl := Nat.eq_of_beq_eq_true b2
          exact k2
        | false =>
          rw [b2] at hg
          simp only [cond_false] at hg
          cases hg
/-- What is read of the listed variables, if no place is read twice (told by a set of bits) and all rows are plain. -/
def metB (P : Program) (w : World) (fuel M : Nat) (l : List (String × DataW Unit)) : Option (List (String × DataW Unit)) := (DataW.laidRun P w fuel (l.map (·.1))).bind fun x => if nodupBits M x.2 0 && laidRowsB P w x.2 then some x.1 else none
theorem met_of_B {P : Program} {w : World} {fuel M : Nat} {l : List (String × DataW Unit)} (h : metB P w fuel M l = some l) : laidMet P l w := by
  unfold metB at h
  simp only [Option.bind_eq_some_iff] at h
  obtain ⟨x, hx, h⟩ := h
  split at h
  · rename_i hb
    simp only [Bool.and_eq_true] at hb
    have e := Option.some.inj h
    refine laidMet_of_run (ps := x.2) fuel ?_ (decide_eq_true (nodupBits_sound hb.1).1) hb.2
    rw [hx, ← e]
  · cases h
/-- the pinned table's own cells. -/
noncomputable def firstCells : Array Value := (Go.Pinned.utf8FirstZ.map fun (n : Nat) => Value.int .u8 (n : Int)).toArray
/-- A start that fits: the heap that the variables' own initialisers leave (the function that lays them told by its number), and the pinned table. -/
noncomputable def doorAt (os : Os) : World := { World.holding Tryz.prog os ⟨#[], #[], []⟩ with heap := (varsWorld Tryz.prog 4000 738 os (fun _ _ => 0)).heap.modify 3 fun | .cells _ t f => .cells firstCells t f | o => o }
theorem door_met (os : Os) (args : Array Value) : laidMetH Tryz.prog laidL ((doorAt os).forCall (fun _ _ => 0) ⟨#[], args, []⟩).memory :=
  laidMetH_of_parts (met_of_B (fuel := 8) (M := 300) (by as_aux_lemma => kernel_rfl)) (by as_aux_lemma => kernel_rfl)
end Go.Proofs.YtcofioeikpiabaaGreatDoor
