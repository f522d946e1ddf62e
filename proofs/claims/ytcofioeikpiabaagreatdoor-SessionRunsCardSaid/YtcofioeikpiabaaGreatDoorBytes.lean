/-
  The byte predicates of package lex, walked.
-/
import Derived.Test.YtcofioeikpiabaaGreatDoorProg
import Derived.Test.YtcofioeikpiabaaGreatDoorSpec
import Derived.Test.YtcofioeikpiabaaGreatDoorShelf
import Derived.WalkKit
import Derived.WalkLawsBesides
import Derived.Outline
import Derived.Handy
namespace Go.Proofs.YtcofioeikpiabaaGreatDoor
open Go.RowKit Lx

def Hid (p : Prop) : Prop := p
theorem hide {p : Prop} (h : p) : Hid p := h
theorem unhide {p : Prop} (h : Hid p) : p := h

theorem isBlank_any (b : Int) (w : World) : Calls Tryz.prog 461 #[.int .u8 b] w fun e w' => e = .returned (.bool (blankB b)) ∧ w' = w := by
  go_enter Tryz.func461, Tryz.ntmps461
  go_wp2
  all_goals
    go_ret
    simp_all [blankB]
theorem isSmall_any (b : Int) (w : World) : Calls Tryz.prog 531 #[.int .u8 b] w fun e w' => e = .returned (.bool (smallB b)) ∧ w' = w := by
  go_enter Tryz.func531, Tryz.ntmps531
  go_wp2
  all_goals
    go_ret
    simp_all [smallB]
    try omega
theorem isGreat_any (b : Int) (w : World) : Calls Tryz.prog 532 #[.int .u8 b] w fun e w' => e = .returned (.bool (greatB b)) ∧ w' = w := by
  go_enter Tryz.func532, Tryz.ntmps532
  go_wp2
  all_goals
    go_ret
    simp_all [greatB]
    try omega
theorem isDigit_any (b : Int) (w : World) : Calls Tryz.prog 533 #[.int .u8 b] w fun e w' => e = .returned (.bool (digitB b)) ∧ w' = w := by
  go_enter Tryz.func533, Tryz.ntmps533
  go_wp2
  all_goals
    go_ret
    simp_all [digitB]
    try omega
theorem plain_any (b : Int) (w : World) : Calls Tryz.prog 546 #[.int .u8 b] w fun e w' => e = .returned (.bool (plainB b)) ∧ w' = w := by
  go_enter Tryz.func546, Tryz.ntmps546
  go_wp2
  all_goals
    go_ret
    simp_all [plainB]
    try omega

theorem sign_index : ∀ n : Nat, n < 256 → decide (0 ≤ Lib.indexByte [40, 41, 123, 125, 59, 58, 44, 46, 61, 60, 43, 45, 42] n.toUInt8) = signB (n : Int) := by decide +kernel
theorem isSign_any (b : Int) (w : World) (h0 : 0 ≤ b) (h1 : b < 256) : Calls Tryz.prog 534 #[.int .u8 b] w fun e w' => e = .returned (.bool (signB b)) ∧ w' = w := by
  have hs := sign_index b.toNat (by omega)
  rw [Int.toNat_of_nonneg h0] at hs
  have HS := hide hs
  clear hs
  go_enter Tryz.func534, Tryz.ntmps534
  go_wp2_with (go_at_call 111; refine (Tryz.strings_IndexByte _ _ _).mono ?_; rintro e w' ⟨rfl, rfl⟩)
  go_ret
  exact ⟨congrArg (fun b => Ending.returned (Value.bool b)) (unhide HS), rfl⟩
theorem inName_any (b : Int) (w : World) : Calls Tryz.prog 587 #[.int .u8 b] w fun e w' => e = .returned (.bool (nameB b)) ∧ w' = w := by
  go_enter Tryz.func587, Tryz.ntmps587
  go_wp2_with (first | (go_at_call 531; refine (isSmall_any _ _).mono ?_; rintro e w' ⟨rfl, rfl⟩) | (go_at_call 532; refine (isGreat_any _ _).mono ?_; rintro e w' ⟨rfl, rfl⟩) | (go_at_call 533; refine (isDigit_any _ _).mono ?_; rintro e w' ⟨rfl, rfl⟩))
  all_goals
    go_ret
    simp_all [nameB]
theorem begins_any (b : Int) (w : World) (h0 : 0 ≤ b) (h1 : b < 256) : Calls Tryz.prog 464 #[.int .u8 b] w fun e w' => e = .returned (.bool (beginB b)) ∧ w' = w := by
  go_enter Tryz.func464, Tryz.ntmps464
  go_wp2_with (first | (go_at_call 531; refine (isSmall_any _ _).mono ?_; rintro e w' ⟨rfl, rfl⟩) | (go_at_call 532; refine (isGreat_any _ _).mono ?_; rintro e w' ⟨rfl, rfl⟩) | (go_at_call 533; refine (isDigit_any _ _).mono ?_; rintro e w' ⟨rfl, rfl⟩) | (go_at_call 534; refine (isSign_any _ _ h0 h1).mono ?_; rintro e w' ⟨rfl, rfl⟩))
  all_goals
    go_ret
    simp_all [beginB]
theorem escaped_any (b : Int) (w : World) : Calls Tryz.prog 588 #[.int .u8 b] w fun e w' => e = .returned (.tuple #[.int .u8 (escB b), .bool (escOk b)]) ∧ w' = w := by
  go_enter Tryz.func588, Tryz.ntmps588
  go_wp2
  all_goals
    go_ret2
    simp_all [escB, escOk]
end Go.Proofs.YtcofioeikpiabaaGreatDoor
