/-
  The byte predicates of package lex, walked.
-/
import Derived.Test.YteoeonhggmkmnaaGreatDoorProg
import Derived.Test.YteoeonhggmkmnaaGreatDoorSpec
import Derived.Test.YteoeonhggmkmnaaGreatDoorShelf
import Derived.WalkKit
import Derived.WalkLawsBesides
import Derived.Outline
import Derived.Handy
namespace Go.Proofs.YteoeonhggmkmnaaGreatDoor
open Go.RowKit Lx

def Hid (p : Prop) : Prop := p
theorem hide {p : Prop} (h : p) : Hid p := h
theorem unhide {p : Prop} (h : Hid p) : p := h

theorem isBlank_any (b : Int) (w : World) : Calls Tryz.prog 118 #[.int .u8 b] w fun e w' => e = .returned (.bool (blankB b)) ∧ w' = w := by
  go_enter Tryz.func118, Tryz.ntmps118
  go_wp2
  all_goals
    go_ret
    simp_all [blankB]
theorem isSmall_any (b : Int) (w : World) : Calls Tryz.prog 133 #[.int .u8 b] w fun e w' => e = .returned (.bool (smallB b)) ∧ w' = w := by
  go_enter Tryz.func133, Tryz.ntmps133
  go_wp2
  all_goals
    go_ret
    simp_all [smallB]
    try omega
theorem isGreat_any (b : Int) (w : World) : Calls Tryz.prog 134 #[.int .u8 b] w fun e w' => e = .returned (.bool (greatB b)) ∧ w' = w := by
  go_enter Tryz.func134, Tryz.ntmps134
  go_wp2
  all_goals
    go_ret
    simp_all [greatB]
    try omega
theorem isDigit_any (b : Int) (w : World) : Calls Tryz.prog 135 #[.int .u8 b] w fun e w' => e = .returned (.bool (digitB b)) ∧ w' = w := by
  go_enter Tryz.func135, Tryz.ntmps135
  go_wp2
  all_goals
    go_ret
    simp_all [digitB]
    try omega
theorem plain_any (b : Int) (w : World) : Calls Tryz.prog 123 #[.int .u8 b] w fun e w' => e = .returned (.bool (plainB b)) ∧ w' = w := by
  go_enter Tryz.func123, Tryz.ntmps123
  go_wp2
  all_goals
    go_ret
    simp_all [plainB]
    try omega

theorem sign_index : ∀ n : Nat, n < 256 → decide (0 ≤ Lib.indexByte [40, 41, 123, 125, 59, 58, 44, 46, 61, 60, 43, 45, 42] n.toUInt8) = signB (n : Int) := by decide +kernel
theorem isSign_any (b : Int) (w : World) (h0 : 0 ≤ b) (h1 : b < 256) : Calls Tryz.prog 136 #[.int .u8 b] w fun e w' => e = .returned (.bool (signB b)) ∧ w' = w := by
  have hs := sign_index b.toNat (by omega)
  rw [Int.toNat_of_nonneg h0] at hs
  have HS := hide hs
  clear hs
  go_enter Tryz.func136, Tryz.ntmps136
  go_wp2_with (go_at_call 132; refine (Tryz.strings_IndexByte _ _ _).mono ?_; rintro e w' ⟨rfl, rfl⟩)
  go_ret
  exact ⟨congrArg (fun b => Ending.returned (Value.bool b)) (unhide HS), rfl⟩
theorem inName_any (b : Int) (w : World) : Calls Tryz.prog 151 #[.int .u8 b] w fun e w' => e = .returned (.bool (nameB b)) ∧ w' = w := by
  go_enter Tryz.func151, Tryz.ntmps151
  go_wp2_with (first | (go_at_call 133; refine (isSmall_any _ _).mono ?_; rintro e w' ⟨rfl, rfl⟩) | (go_at_call 134; refine (isGreat_any _ _).mono ?_; rintro e w' ⟨rfl, rfl⟩) | (go_at_call 135; refine (isDigit_any _ _).mono ?_; rintro e w' ⟨rfl, rfl⟩))
  all_goals
    go_ret
    simp_all [nameB]
theorem begins_any (b : Int) (w : World) (h0 : 0 ≤ b) (h1 : b < 256) : Calls Tryz.prog 121 #[.int .u8 b] w fun e w' => e = .returned (.bool (beginB b)) ∧ w' = w := by
  go_enter Tryz.func121, Tryz.ntmps121
  go_wp2_with (first | (go_at_call 133; refine (isSmall_any _ _).mono ?_; rintro e w' ⟨rfl, rfl⟩) | (go_at_call 134; refine (isGreat_any _ _).mono ?_; rintro e w' ⟨rfl, rfl⟩) | (go_at_call 135; refine (isDigit_any _ _).mono ?_; rintro e w' ⟨rfl, rfl⟩) | (go_at_call 136; refine (isSign_any _ _ h0 h1).mono ?_; rintro e w' ⟨rfl, rfl⟩))
  all_goals
    go_ret
    simp_all [beginB]
theorem escaped_any (b : Int) (w : World) : Calls Tryz.prog 152 #[.int .u8 b] w fun e w' => e = .returned (.tuple #[.int .u8 (escB b), .bool (escOk b)]) ∧ w' = w := by
  go_enter Tryz.func152, Tryz.ntmps152
  go_wp2
  all_goals
    go_ret2
    simp_all [escB, escOk]
end Go.Proofs.YteoeonhggmkmnaaGreatDoor
