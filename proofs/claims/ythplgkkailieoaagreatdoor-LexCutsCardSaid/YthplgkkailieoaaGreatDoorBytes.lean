/-
  The byte predicates of package lex, walked.
-/
import Derived.Test.YthplgkkailieoaaGreatDoorProg
import Derived.Test.YthplgkkailieoaaGreatDoorSpec
import Derived.Test.YthplgkkailieoaaGreatDoorShelf
import Derived.WalkKit
import Derived.WalkLawsBesides
import Derived.Outline
import Derived.Handy
namespace Go.Proofs.YthplgkkailieoaaGreatDoor
open Go.RowKit Lx

def Hid (p : Prop) : Prop := p
theorem hide {p : Prop} (h : p) : Hid p := h
theorem unhide {p : Prop} (h : Hid p) : p := h

theorem isBlank_any (b : Int) (w : World) : Calls Tryz.prog 73 #[.int .u8 b] w fun e w' => e = .returned (.bool (blankB b)) ∧ w' = w := by
  go_enter Tryz.func73, Tryz.ntmps73
  go_wp2
  all_goals
    go_ret
    simp_all [blankB]
theorem isSmall_any (b : Int) (w : World) : Calls Tryz.prog 85 #[.int .u8 b] w fun e w' => e = .returned (.bool (smallB b)) ∧ w' = w := by
  go_enter Tryz.func85, Tryz.ntmps85
  go_wp2
  all_goals
    go_ret
    simp_all [smallB]
    try omega
theorem isGreat_any (b : Int) (w : World) : Calls Tryz.prog 86 #[.int .u8 b] w fun e w' => e = .returned (.bool (greatB b)) ∧ w' = w := by
  go_enter Tryz.func86, Tryz.ntmps86
  go_wp2
  all_goals
    go_ret
    simp_all [greatB]
    try omega
theorem isDigit_any (b : Int) (w : World) : Calls Tryz.prog 87 #[.int .u8 b] w fun e w' => e = .returned (.bool (digitB b)) ∧ w' = w := by
  go_enter Tryz.func87, Tryz.ntmps87
  go_wp2
  all_goals
    go_ret
    simp_all [digitB]
    try omega
theorem plain_any (b : Int) (w : World) : Calls Tryz.prog 81 #[.int .u8 b] w fun e w' => e = .returned (.bool (plainB b)) ∧ w' = w := by
  go_enter Tryz.func81, Tryz.ntmps81
  go_wp2
  all_goals
    go_ret
    simp_all [plainB]
    try omega

theorem sign_index : ∀ n : Nat, n < 256 → decide (0 ≤ Lib.indexByte [40, 41, 123, 125, 59, 58, 44, 46, 61, 60, 43, 45, 42] n.toUInt8) = signB (n : Int) := by decide +kernel
theorem isSign_any (b : Int) (w : World) (h0 : 0 ≤ b) (h1 : b < 256) : Calls Tryz.prog 88 #[.int .u8 b] w fun e w' => e = .returned (.bool (signB b)) ∧ w' = w := by
  have hs := sign_index b.toNat (by omega)
  rw [Int.toNat_of_nonneg h0] at hs
  have HS := hide hs
  clear hs
  go_enter Tryz.func88, Tryz.ntmps88
  go_wp2_with (go_at_call 84; refine (Tryz.strings_IndexByte _ _ _).mono ?_; rintro e w' ⟨rfl, rfl⟩)
  go_ret
  exact ⟨congrArg (fun b => Ending.returned (Value.bool b)) (unhide HS), rfl⟩
theorem inName_any (b : Int) (w : World) : Calls Tryz.prog 96 #[.int .u8 b] w fun e w' => e = .returned (.bool (nameB b)) ∧ w' = w := by
  go_enter Tryz.func96, Tryz.ntmps96
  go_wp2_with (first | (go_at_call 85; refine (isSmall_any _ _).mono ?_; rintro e w' ⟨rfl, rfl⟩) | (go_at_call 86; refine (isGreat_any _ _).mono ?_; rintro e w' ⟨rfl, rfl⟩) | (go_at_call 87; refine (isDigit_any _ _).mono ?_; rintro e w' ⟨rfl, rfl⟩))
  all_goals
    go_ret
    simp_all [nameB]
theorem begins_any (b : Int) (w : World) (h0 : 0 ≤ b) (h1 : b < 256) : Calls Tryz.prog 76 #[.int .u8 b] w fun e w' => e = .returned (.bool (beginB b)) ∧ w' = w := by
  go_enter Tryz.func76, Tryz.ntmps76
  go_wp2_with (first | (go_at_call 85; refine (isSmall_any _ _).mono ?_; rintro e w' ⟨rfl, rfl⟩) | (go_at_call 86; refine (isGreat_any _ _).mono ?_; rintro e w' ⟨rfl, rfl⟩) | (go_at_call 87; refine (isDigit_any _ _).mono ?_; rintro e w' ⟨rfl, rfl⟩) | (go_at_call 88; refine (isSign_any _ _ h0 h1).mono ?_; rintro e w' ⟨rfl, rfl⟩))
  all_goals
    go_ret
    simp_all [beginB]
theorem escaped_any (b : Int) (w : World) : Calls Tryz.prog 97 #[.int .u8 b] w fun e w' => e = .returned (.tuple #[.int .u8 (escB b), .bool (escOk b)]) ∧ w' = w := by
  go_enter Tryz.func97, Tryz.ntmps97
  go_wp2
  all_goals
    go_ret2
    simp_all [escB, escOk]
end Go.Proofs.YthplgkkailieoaaGreatDoor
