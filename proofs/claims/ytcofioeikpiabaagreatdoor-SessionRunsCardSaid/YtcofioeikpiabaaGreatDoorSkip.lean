/-
  skip and remarkEnd of package lex, walked.
-/
import Derived.Test.YtcofioeikpiabaaGreatDoorBytes
namespace Go.Proofs.YtcofioeikpiabaaGreatDoor
open Go.RowKit Lx

theorem indexByte_find : ∀ (l : Bs) (c : UInt8), Lib.indexByte l c = if l.findIdx (· == c) < l.length then ((l.findIdx (· == c) : Nat) : Int) else -1
  | [], c => by simp [Lib.indexByte]
  | b :: r, c => by
    have ih := indexByte_find r c
    have hle := List.findIdx_le_length (xs := r) (p := (· == c))
    by_cases h : b = c
    · subst h; simp [Lib.indexByte, List.findIdx_cons]
    · have hb : (b == c) = false := by simpa using h
      simp only [Lib.indexByte, hb, Bool.false_eq_true, if_false, List.findIdx_cons, cond_false, List.length_cons, ih]
      by_cases h2 : r.findIdx (· == c) < r.length
      · have : ¬ ((r.findIdx (· == c) : Nat) : Int) = -1 := by omega
        simp [h2, this]
      · simp [h2]

theorem extract_list (s : ByteArray) (a : Nat) : (s.extract a s.size).data.toList = s.data.toList.drop a := by
  have h : s.data.toList.length = s.size := by simp
  simp [ByteArray.data_extract, List.take_of_length_le, List.length_drop, h]
theorem idx_nl (s : ByteArray) (a : Nat) (w : World) : Calls Tryz.prog 111 #[.string (s.extract a s.size), .int .u8 10] w fun e w' => e = .returned (.int .i64 (Lib.indexByte (s.data.toList.drop a) 10)) ∧ w' = w := by
  refine (Tryz.strings_IndexByte _ _ _).mono ?_
  rintro e w' ⟨rfl, rfl⟩
  rw [extract_list]
  exact ⟨rfl, rfl⟩
theorem ret_int {k : IntKind} {a b : Int} (h : a = b) : Ending.returned (.int k a) = .returned (.int k b) := by rw [h]

theorem remarkEnd_any (s : ByteArray) (a : Nat) (w : World) (ha : a ≤ s.size) (hs : s.size ≤ maxLen) :
    Calls Tryz.prog 463 #[.string s, .int .i64 a] w fun e w' => e = .returned (.int .i64 ((a + (s.data.toList.drop a).findIdx (· == 10) : Nat) : Int)) ∧ w' = w := by
  unfold maxLen at hs
  have hle := List.findIdx_le_length (xs := s.data.toList.drop a) (p := (· == 10))
  have hl : (s.data.toList.drop a).length = s.size - a := by simp
  have hx := indexByte_find (s.data.toList.drop a) 10
  generalize hk : (s.data.toList.drop a).findIdx (· == 10) = k at *
  clear hk
  by_cases h : k < (s.data.toList.drop a).length
  · rw [if_pos h] at hx
    go_enter Tryz.func463, Tryz.ntmps463
    go_wp2_with (go_at_call 111; refine (idx_nl _ _ _).mono ?_; rintro e w' ⟨rfl, rfl⟩)
    go_ret
    exact ⟨ret_int (by omega), rfl⟩
  · rw [if_neg h] at hx
    go_enter Tryz.func463, Tryz.ntmps463
    go_wp2_with (go_at_call 111; refine (idx_nl _ _ _).mono ?_; rintro e w' ⟨rfl, rfl⟩)
    go_ret
    exact ⟨ret_int (by omega), rfl⟩

theorem pre_two (s : ByteArray) (a : Nat) (p : Bs) (w : World) : Calls Tryz.prog 462 #[.string (s.extract a s.size), .string ⟨p.toArray⟩] w fun e w' => e = .returned (.bool (p.isPrefixOf (s.data.toList.drop a))) ∧ w' = w := by
  refine (Tryz.strings_HasPrefix _ _ _).mono ?_
  rintro e w' ⟨rfl, rfl⟩
  rw [extract_list]
  exact ⟨rfl, rfl⟩
theorem drop_cons (s : ByteArray) (k : Nat) (h : k < s.size) : s.data.toList.drop k = s[k] :: s.data.toList.drop (k + 1) := by
  rw [List.drop_eq_getElem_cons (by simpa using h)]; rfl

set_option maxHeartbeats 400000 in
theorem skip_any (s : ByteArray) (a : Nat) (w : World) (ha : a ≤ s.size) (hs : s.size ≤ maxLen) :
    Calls Tryz.prog 377 #[.string s, .int .i64 a] w fun e w' => e = .returned (.int .i64 ((a + skip (s.data.toList.drop a) : Nat) : Int)) ∧ w' = w := by
  have hs' := hs
  unfold maxLen at hs
  go_enter Tryz.func377, Tryz.ntmps377
  go_wp2
  go_loop [1] (fun i => ∃ k : Nat, k ≤ s.size ∧ i = .int .i64 k ∧ Hid (a + skip (s.data.toList.drop a) = k + skip (s.data.toList.drop k))) (fun i => s.size - (intOf i).toNat)
  case atStart => exact ⟨a, ha, rfl, rfl⟩
  case round =>
    obtain ⟨k, hk, rfl, HK⟩ := hrel
    by_cases hlt : k < s.size
    · have hd := drop_cons s k hlt
      by_cases hb : blankB (s[k].toNat : Int) = true
      · have HN := hide (skip_blank s[k] (s.data.toList.drop (k + 1)) hb)
        rw [← hd] at HN
        clear hd
        go_wp2_with (go_at_call 461; refine (isBlank_any _ _).mono ?_; rintro e w' ⟨rfl, rfl⟩)
        go_round
        case rel => exact ⟨k + 1, by omega, by go_num, by have h1 := unhide HK; have h2 := unhide HN; show _ = _; omega⟩
        case measure => simp [intOf]; omega
      · have hb : blankB (s[k].toNat : Int) = false := by simpa using hb
        by_cases hp : [47, 47].isPrefixOf (s.data.toList.drop k) = true
        · have HN := hide (skip_two _ hp)
          have hle := List.findIdx_le_length (xs := s.data.toList.drop k) (p := (· == 10))
          have hl : (s.data.toList.drop k).length = s.size - k := by simp
          rw [hl] at hle
          clear hd hl
          have hne : 0 < (s.data.toList.drop k).findIdx (· == 10) := by
            have hc : s[k] = 47 := by
              have := hp; rw [drop_cons s k hlt] at this; simp [List.isPrefixOf] at this; exact this.1.symm
            rw [drop_cons s k hlt, hc]
            simp [List.findIdx_cons]
          go_wp2_with (first | (go_at_call 461; refine (isBlank_any _ _).mono ?_; rintro e w' ⟨rfl, rfl⟩) | (go_at_call 462; refine (pre_two _ _ _ _).mono ?_; rintro e w' ⟨rfl, rfl⟩) | (go_at_call 463; refine (remarkEnd_any _ _ _ hk hs').mono ?_; rintro e w' ⟨rfl, rfl⟩))
          go_round
          case rel => exact ⟨k + (s.data.toList.drop k).findIdx (· == 10), by omega, by go_num, by have h1 := unhide HK; have h2 := unhide HN; rw [List.drop_drop] at h2; show _ = _; omega⟩
          case measure => simp [intOf]; omega
        · have hp : [47, 47].isPrefixOf (s.data.toList.drop k) = false := (Bool.not_eq_true _).mp hp
          have HN : Hid (skip (s.data.toList.drop k) = 0) := by
            have hp' := hp
            rw [hd] at hp' ⊢
            exact skip_none _ _ hb hp'
          clear hd
          go_wp2_with (first | (go_at_call 461; refine (isBlank_any _ _).mono ?_; rintro e w' ⟨rfl, rfl⟩) | (go_at_call 462; refine (pre_two _ _ _ _).mono ?_; rintro e w' ⟨rfl, rfl⟩))
          go_ret
          exact ⟨ret_int (by have h1 := unhide HK; have h2 := unhide HN; omega), rfl⟩
    · have HN : Hid (skip (s.data.toList.drop k) = 0) := by
        rw [List.drop_of_length_le (by simp; omega)]; rfl
      go_wp2
      go_ret
      exact ⟨ret_int (by have h1 := unhide HK; have h2 := unhide HN; omega), rfl⟩
end Go.Proofs.YtcofioeikpiabaaGreatDoor
