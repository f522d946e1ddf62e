/-
  coilref1.skip, walked: blanks and remarks.
-/
import Derived.Test.YthplgkkailieoaaGreatDoorRefBytes
namespace Go.Proofs.YthplgkkailieoaaGreatDoor
open Go Go.RowKit Lx

theorem skipN_true_no (c : UInt8) (r : Bs) (h : c ≠ 10) : skipN true (c :: r) = 1 + skipN true r := by rw [skipN, if_neg h]
theorem skipN_true_nl (r : Bs) : skipN true (10 :: r) = skip (10 :: r) := by simp [skipN, skip, blankB]
theorem ret_nat {a b : Nat} (h : a = b) : Ending.returned (.int .i64 (a : Int)) = .returned (.int .i64 (b : Int)) := by rw [h]
theorem skip_slash (l : Bs) (h : [47, 47].isPrefixOf l = true) : skip l = skipN true l := by rw [skip_two l h, skipN_remark]
set_option maxHeartbeats 2000000 in
set_option maxRecDepth 100000 in
theorem rskip_any (s : ByteArray) (a z : Nat) (w : World) (h0 : a ≤ s.size) (hs : s.size ≤ 140737488355328) (hz : z = a + skip (s.data.toList.drop a)) :
    Calls Tryz.prog 22 #[.string s, .int .i64 a] w fun e w' => e = .returned (.int .i64 (z : Int)) ∧ w = w' := by
  have HZ := hide hz
  clear hz
  go_enter Tryz.func22, Tryz.ntmps22
  go_wp2
  go_loop [1] (fun i => ∃ k : Nat, k ≤ s.size ∧ i = .int .i64 k ∧ Hid (z = k + skip (s.data.toList.drop k))) (fun i => s.size - (intOf i).toNat)
  case atStart => exact ⟨a, h0, rfl, HZ⟩
  case round =>
    obtain ⟨k, hk, rfl, HK⟩ := hrel
    by_cases hlt : k < s.size
    · have hd := drop_cons s k hlt
      have hlt' : (k : Int) < (s.size : Int) := by omega
      by_cases hb : blankB (s[k].toNat : Int) = true
      · have HN : Hid (z = (k + 1) + skip (s.data.toList.drop (k + 1))) := by
          have e := unhide HK
          rw [hd, skip_blank _ _ hb] at e
          show _ = _
          omega
        have hb' : ((s[k].toNat : Int) == 9) = true ∨ (((s[k].toNat : Int) == 9) = false ∧ ((s[k].toNat : Int) == 10) = true) ∨ (((s[k].toNat : Int) == 9) = false ∧ ((s[k].toNat : Int) == 10) = false ∧ ((s[k].toNat : Int) == 13) = true) ∨
            (((s[k].toNat : Int) == 9) = false ∧ ((s[k].toNat : Int) == 10) = false ∧ ((s[k].toNat : Int) == 13) = false ∧ ((s[k].toNat : Int) == 32) = true) := by
          simp only [blankB, Bool.or_eq_true, beq_iff_eq, beq_eq_false_iff_ne] at hb ⊢
          omega
        clear hb hd
        rcases hb' with q1 | ⟨q1, q2⟩ | ⟨q1, q2, q3⟩ | ⟨q1, q2, q3, q4⟩
        all_goals
          go_wp2
          go_round
          case rel => exact ⟨k + 1, by omega, by go_num, HN⟩
          case measure => simp [intOf]; omega
      · have hb := (Bool.not_eq_true _).mp hb
        have hb' : ((s[k].toNat : Int) == 9) = false ∧ ((s[k].toNat : Int) == 10) = false ∧ ((s[k].toNat : Int) == 13) = false ∧ ((s[k].toNat : Int) == 32) = false := by
          simp only [blankB, Bool.or_eq_false_iff] at hb
          exact ⟨hb.1.1.1, hb.1.1.2, hb.1.2, hb.2⟩
        obtain ⟨q1, q2, q3, q4⟩ := hb'
        by_cases hp : [47, 47].isPrefixOf (s.data.toList.drop k) = true
        · have hk2 : k + 1 < s.size := by
            rcases Nat.lt_or_ge (k + 1) s.size with h | h
            · exact h
            · rw [hd, List.drop_of_length_le (by simp; omega)] at hp
              simp [List.isPrefixOf] at hp
          have hd2 := drop_cons s (k + 1) hk2
          have h47 : s[k] = 47 ∧ s[k + 1] = 47 := by
            rw [hd, hd2] at hp
            simp [List.isPrefixOf] at hp
            exact ⟨hp.1.symm, hp.2.symm⟩
          have n1 : ((s[k].toNat : Int) != 47) = false := by rw [h47.1]; rfl
          have n2 : ((s[k + 1].toNat : Int) != 47) = false := by rw [h47.2]; rfl
          have n3 : ((k : Int) + 1 == (s.size : Int)) = false := by rw [beq_eq_false_iff_ne]; omega
          have HR : Hid (z = k + skipN true (s.data.toList.drop k)) := by
            have e := unhide HK
            rw [skip_slash _ hp] at e
            exact e
          have hk10 : s[k] ≠ 10 := by rw [h47.1]; decide
          clear hp hd hd2 h47 HK hb
          go_wp2
          go_loop [1] (fun i => ∃ j : Nat, k ≤ j ∧ j ≤ s.size ∧ i = .int .i64 j ∧ Hid (z = j + skipN true (s.data.toList.drop j))) (fun i => s.size - (intOf i).toNat)
          case atStart => exact ⟨k, by omega, by omega, rfl, HR⟩
          case round =>
            obtain ⟨j, hj1, hj2, rfl, HJ⟩ := hrel
            by_cases hj : j < s.size
            · have hdj := drop_cons s j hj
              have hj' : (j : Int) < (s.size : Int) := by omega
              by_cases h10 : s[j] = 10
              · have m1 : ((s[j].toNat : Int) != 10) = false := by rw [h10]; rfl
                have HN : Hid (z = j + skip (s.data.toList.drop j)) := by
                  have e := unhide HJ
                  rw [hdj, h10, skipN_true_nl, ← h10, ← hdj] at e
                  exact e
                have hkj : k < j := by
                  rcases Nat.lt_or_ge k j with h | h
                  · exact h
                  · have : j = k := by omega
                    subst this
                    exact absurd h10 hk10
                clear hdj h10 HJ
                go_wp2
                go_round
                case rel => exact ⟨j, by omega, rfl, HN⟩
                case measure => simp [intOf]; omega
              · have m1 : ((s[j].toNat : Int) != 10) = true := by
                  simp only [bne_iff_ne, ne_eq]
                  intro h
                  exact h10 (byte_is (n := 10) (by decide) h)
                have HN : Hid (z = (j + 1) + skipN true (s.data.toList.drop (j + 1))) := by
                  have e := unhide HJ
                  rw [hdj, skipN_true_no _ _ h10] at e
                  show _ = _
                  omega
                clear hdj h10 HJ
                go_wp2
                go_round
                case rel => exact ⟨j + 1, by omega, by omega, by go_num, HN⟩
                case measure => simp [intOf]; omega
            · have HN : Hid (z = j + skip (s.data.toList.drop j)) := by
                have e := unhide HJ
                rw [List.drop_of_length_le (i := j) (by rw [len_data]; omega)] at e ⊢
                exact e
              go_wp2
              go_round
              case rel => exact ⟨j, by omega, rfl, HN⟩
              case measure => simp [intOf]; omega
        · have hp := (Bool.not_eq_true _).mp hp
          have HN : Hid (z = k) := by
            have e := unhide HK
            rw [hd] at e hp
            rw [skip_none _ _ hb hp] at e
            exact e
          have hcase : ((s[k].toNat : Int) != 47) = true ∨ (((s[k].toNat : Int) != 47) = false ∧ ((k : Int) + 1 == (s.size : Int)) = true) ∨ (∃ h : k + 1 < s.size, ((s[k].toNat : Int) != 47) = false ∧ ((k : Int) + 1 == (s.size : Int)) = false ∧ ((s[k + 1].toNat : Int) != 47) = true) := by
            by_cases c1 : s[k] = 47
            · have n1 : ((s[k].toNat : Int) != 47) = false := by rw [c1]; rfl
              rcases Nat.lt_or_ge (k + 1) s.size with h | h
              · refine .inr (.inr ⟨h, n1, by rw [beq_eq_false_iff_ne]; omega, ?_⟩)
                simp only [bne_iff_ne, ne_eq]
                intro hq
                have c2 : s[k + 1] = 47 := byte_is (n := 47) (by decide) hq
                rw [hd, drop_cons s (k + 1) h, c1, c2] at hp
                simp [List.isPrefixOf] at hp
              · exact .inr (.inl ⟨n1, by rw [beq_iff_eq]; omega⟩)
            · left
              simp only [bne_iff_ne, ne_eq]
              intro hq
              exact c1 (byte_is (n := 47) (by decide) hq)
          clear hd hp HK hb
          rcases hcase with n1 | ⟨n1, n2⟩ | ⟨hk2, n1, n2, n3⟩
          all_goals
            go_wp2
            go_ret
            exact ⟨ret_nat (unhide HN).symm, rfl⟩
    · have HN : Hid (z = k) := by
        have e := unhide HK
        rw [List.drop_of_length_le (i := k) (by rw [len_data]; omega)] at e
        exact e
      go_wp2
      go_ret
      exact ⟨ret_nat (unhide HN).symm, rfl⟩
end Go.Proofs.YthplgkkailieoaaGreatDoor
