/-
  The byte predicates of package lex, walked.
-/
import Derived.Test.YtkahhkeohmljaabDoorProg
import Derived.Test.YtkahhkeohmljaabDoorSpec
import Derived.Test.YtkahhkeohmljaabDoorShelf
import Derived.WalkKit
import Derived.WalkLawsBesides
import Derived.Outline
import Derived.Handy
namespace Go.Proofs.YtkahhkeohmljaabDoor
open Go.RowKit Lx

def Hid (p : Prop) : Prop := p
theorem hide {p : Prop} (h : p) : Hid p := h
theorem unhide {p : Prop} (h : Hid p) : p := h

theorem isBlank_any (b : Int) (w : World) : Calls Tryd.prog 48 #[.int .u8 b] w fun e w' => e = .returned (.bool (blankB b)) ∧ w' = w := by
  go_enter Tryd.func48, Tryd.ntmps48
  go_wp2
  all_goals
    go_ret
    simp_all [blankB]
theorem isSmall_any (b : Int) (w : World) : Calls Tryd.prog 60 #[.int .u8 b] w fun e w' => e = .returned (.bool (smallB b)) ∧ w' = w := by
  go_enter Tryd.func60, Tryd.ntmps60
  go_wp2
  all_goals
    go_ret
    simp_all [smallB]
    try omega
theorem isGreat_any (b : Int) (w : World) : Calls Tryd.prog 61 #[.int .u8 b] w fun e w' => e = .returned (.bool (greatB b)) ∧ w' = w := by
  go_enter Tryd.func61, Tryd.ntmps61
  go_wp2
  all_goals
    go_ret
    simp_all [greatB]
    try omega
theorem isDigit_any (b : Int) (w : World) : Calls Tryd.prog 62 #[.int .u8 b] w fun e w' => e = .returned (.bool (digitB b)) ∧ w' = w := by
  go_enter Tryd.func62, Tryd.ntmps62
  go_wp2
  all_goals
    go_ret
    simp_all [digitB]
    try omega
theorem plain_any (b : Int) (w : World) : Calls Tryd.prog 56 #[.int .u8 b] w fun e w' => e = .returned (.bool (plainB b)) ∧ w' = w := by
  go_enter Tryd.func56, Tryd.ntmps56
  go_wp2
  all_goals
    go_ret
    simp_all [plainB]
    try omega

theorem sign_index : ∀ n : Nat, n < 256 → decide (0 ≤ Lib.indexByte [40, 41, 123, 125, 59, 58, 44, 46, 61, 60, 43, 45, 42] n.toUInt8) = signB (n : Int) := by decide +kernel
theorem isSign_any (b : Int) (w : World) (h0 : 0 ≤ b) (h1 : b < 256) : Calls Tryd.prog 63 #[.int .u8 b] w fun e w' => e = .returned (.bool (signB b)) ∧ w' = w := by
  have hs := sign_index b.toNat (by omega)
  rw [Int.toNat_of_nonneg h0] at hs
  have HS := hide hs
  clear hs
  go_enter Tryd.func63, Tryd.ntmps63
  go_wp2_with (go_at_call 59; refine (Tryd.strings_IndexByte _ _ _).mono ?_; rintro e w' ⟨rfl, rfl⟩)
  go_ret
  exact ⟨congrArg (fun b => Ending.returned (Value.bool b)) (unhide HS), rfl⟩
theorem inName_any (b : Int) (w : World) : Calls Tryd.prog 71 #[.int .u8 b] w fun e w' => e = .returned (.bool (nameB b)) ∧ w' = w := by
  go_enter Tryd.func71, Tryd.ntmps71
  go_wp2_with (first | (go_at_call 60; refine (isSmall_any _ _).mono ?_; rintro e w' ⟨rfl, rfl⟩) | (go_at_call 61; refine (isGreat_any _ _).mono ?_; rintro e w' ⟨rfl, rfl⟩) | (go_at_call 62; refine (isDigit_any _ _).mono ?_; rintro e w' ⟨rfl, rfl⟩))
  all_goals
    go_ret
    simp_all [nameB]
theorem begins_any (b : Int) (w : World) (h0 : 0 ≤ b) (h1 : b < 256) : Calls Tryd.prog 51 #[.int .u8 b] w fun e w' => e = .returned (.bool (beginB b)) ∧ w' = w := by
  go_enter Tryd.func51, Tryd.ntmps51
  go_wp2_with (first | (go_at_call 60; refine (isSmall_any _ _).mono ?_; rintro e w' ⟨rfl, rfl⟩) | (go_at_call 61; refine (isGreat_any _ _).mono ?_; rintro e w' ⟨rfl, rfl⟩) | (go_at_call 62; refine (isDigit_any _ _).mono ?_; rintro e w' ⟨rfl, rfl⟩) | (go_at_call 63; refine (isSign_any _ _ h0 h1).mono ?_; rintro e w' ⟨rfl, rfl⟩))
  all_goals
    go_ret
    simp_all [beginB]
theorem escaped_any (b : Int) (w : World) : Calls Tryd.prog 72 #[.int .u8 b] w fun e w' => e = .returned (.tuple #[.int .u8 (escB b), .bool (escOk b)]) ∧ w' = w := by
  go_enter Tryd.func72, Tryd.ntmps72
  go_wp2
  all_goals
    go_ret2
    simp_all [escB, escOk]
end Go.Proofs.YtkahhkeohmljaabDoor
