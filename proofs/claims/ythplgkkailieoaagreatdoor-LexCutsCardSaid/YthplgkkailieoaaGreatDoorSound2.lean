/-
  sound of package lex, walked.
-/
import Derived.Test.YthplgkkailieoaaGreatDoorSound
namespace Go.Proofs.YthplgkkailieoaaGreatDoor
open Go Go.RowKit Lx

theorem cutsItself_w (a k v : Int) (s : ByteArray) (w : World) (hs : s.size ≤ 140737488355328) (b : Bool) (hb : cutsSelf k s.data.toList = b) :
    Calls Tryz.prog 65 #[.agg #[.int .i64 a, .int .i64 k, .string s, .int .i64 v]] w fun e w' => e = .returned (.bool b) ∧ Below w.heap.size w w' := by
  subst hb; exact cutsItself_any a k v s w hs
theorem sayable_w (s : ByteArray) (w : World) (hs : s.size ≤ 140737488355328) (b : Bool) (hb : sayable s.data.toList = b) : Calls Tryz.prog 66 #[.string s] w fun e w' => e = .returned (.bool b) ∧ w = w' := by
  subst hb; exact sayable_any s w (by unfold maxLen; omega)
theorem ret_bool {a b : Bool} (h : a = b) : Ending.returned (.bool a) = .returned (.bool b) := by rw [h]

set_option maxHeartbeats 1000000 in
set_option maxRecDepth 100000 in
theorem sound_any (a k v : Int) (s : ByteArray) (w : World) (hs : s.size ≤ 140737488355328) (b : Bool) (hb : sound (0, k, s.data.toList, v) = b) :
    Calls Tryz.prog 38 #[.agg #[.int .i64 a, .int .i64 k, .string s, .int .i64 v]] w fun e w' => e = .returned (.bool b) ∧ Below w.heap.size w w' := by
  by_cases h1 : k = 1 ∨ k = 2 ∨ k = 3 ∨ k = 6
  · have hv : (v == 0 && cutsSelf k s.data.toList) = b := by rw [← hb]; simp only [sound]; rw [if_pos h1]
    clear hb
    by_cases hz : (v == 0) = true
    · have CI : Hid (∀ W, _) := fun W => cutsItself_w a k v s W hs b (by rw [← hv, hz]; rfl)
      clear hv
      rcases h1 with rfl | rfl | rfl | rfl
      all_goals
        go_enter Tryz.func38, Tryz.ntmps38
        go_wp2_with (go_at_call 65; refine (unhide CI _).mono ?_; rintro e w1 ⟨rfl, hb1⟩)
        go_ret
        exact ⟨rfl, ((Below.refl _ _).alloc (Nat.le_refl _) _).trans (hb1.mono (by simp))⟩
    · have hz : (v == 0) = false := (Bool.not_eq_true _).mp hz
      rw [hz] at hv
      have HV := hide hv
      clear hv
      rcases h1 with rfl | rfl | rfl | rfl
      all_goals
        go_enter Tryz.func38, Tryz.ntmps38
        go_wp2
        go_ret
        exact ⟨ret_bool (unhide HV), (Below.refl _ _).alloc (Nat.le_refl _) _⟩
  · by_cases h4 : k = 4
    · subst h4
      have hv : (s.data.toList.isEmpty && decide (0 ≤ v)) = b := by rw [← hb]; simp [sound]
      clear hb h1
      by_cases h0 : s.size = 0
      · have he := empty_of h0
        rw [nil_of h0] at hv
        have HV : Hid (decide (0 ≤ v) = b) := by simpa [Hid] using hv
        clear hv h0
        go_enter Tryz.func38, Tryz.ntmps38
        go_wp2
        go_ret
        exact ⟨ret_bool (unhide HV), (Below.refl _ _).alloc (Nat.le_refl _) _⟩
      · have he := not_empty_of h0
        have HV : Hid (false = b) := by rw [← toList_data, he] at hv; exact hv
        clear hv h0
        go_enter Tryz.func38, Tryz.ntmps38
        go_wp2
        go_ret
        exact ⟨ret_bool (unhide HV), (Below.refl _ _).alloc (Nat.le_refl _) _⟩
    · by_cases h5 : k = 5
      · subst h5
        have hv : (v == 0 && sayable s.data.toList) = b := by rw [← hb]; simp [sound]
        clear hb h1 h4
        by_cases hz : (v == 0) = true
        · have SA : Hid (∀ W, _) := fun W => sayable_w s W hs b (by rw [← hv, hz]; rfl)
          clear hv
          go_enter Tryz.func38, Tryz.ntmps38
          go_wp2_with (go_at_call 66; refine (unhide SA _).mono ?_; rintro e w1 ⟨rfl, rfl⟩)
          go_ret
          exact ⟨rfl, (Below.refl _ _).alloc (Nat.le_refl _) _⟩
        · have hz : (v == 0) = false := (Bool.not_eq_true _).mp hz
          rw [hz] at hv
          have HV := hide hv
          clear hv
          go_enter Tryz.func38, Tryz.ntmps38
          go_wp2
          go_ret
          exact ⟨ret_bool (unhide HV), (Below.refl _ _).alloc (Nat.le_refl _) _⟩
      · have HV : Hid (false = b) := by
          show _ = _
          rw [← hb]; simp only [sound]; rw [if_neg h1, if_neg h4, if_neg h5]
        have e1 : (k == 1) = false := by rw [beq_eq_false_iff_ne]; omega
        have e2 : (k == 2) = false := by rw [beq_eq_false_iff_ne]; omega
        have e3 : (k == 3) = false := by rw [beq_eq_false_iff_ne]; omega
        have e4 : (k == 4) = false := by rw [beq_eq_false_iff_ne]; omega
        have e5 : (k == 5) = false := by rw [beq_eq_false_iff_ne]; omega
        have e6 : (k == 6) = false := by rw [beq_eq_false_iff_ne]; omega
        clear hb h1 h4 h5
        go_enter Tryz.func38, Tryz.ntmps38
        go_wp2
        go_ret
        exact ⟨ret_bool (unhide HV), (Below.refl _ _).alloc (Nat.le_refl _) _⟩
end Go.Proofs.YthplgkkailieoaaGreatDoor
