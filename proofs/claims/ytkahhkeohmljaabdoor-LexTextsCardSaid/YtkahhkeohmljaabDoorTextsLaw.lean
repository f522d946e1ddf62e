/-
  coillaw1.LexTexts, walked: it answers true, whatever text it is handed.
-/
import Derived.Test.YtkahhkeohmljaabDoorRuns
import Derived.Test.YtkahhkeohmljaabDoorFew
import Derived.Test.YtkahhkeohmljaabDoorLaws6
namespace Go.Proofs.YtkahhkeohmljaabDoor
open Go Go.RowKit Lx

theorem one_fits (t : Tok) (h1 : t.2.2.1.length ≤ 35184372088832) (h2 : -9223372036854775808 ≤ t.2.2.2) (h3 : t.2.2.2 ≤ 9223372036854775807) : Fits [t] := by
  intro x hx
  rw [List.mem_singleton.1 hx]
  exact ⟨h1, h2, h3⟩
set_option maxHeartbeats 2000000 in
set_option maxRecDepth 100000 in
theorem LexTexts_any (s : ByteArray) (w : World) (hs : s.size ≤ 9223372036854775807) (hg : ErrType w) (ht : Tab w) (h5 : 5 ≤ w.heap.size) :
    Calls Tryd.prog 7 #[.string s] w fun e w' => e = .returned (.bool true) ∧ Below w.heap.size w w' := by
  have HB : Below w.heap.size w w := Below.refl _ _
  have HG := hide hg
  have HT := hide ht
  clear hg ht
  have hS := (fewB_size s 1000).1
  go_enter Tryd.func7, Tryd.ntmps7
  go_wp2_with (go_at_call 14; refine (few_any s 1000 _ hs (by omega)).mono ?_; rintro e w' ⟨rfl, rfl⟩)
  revert hS
  generalize fewB s 1000 = S
  intro hS
  go_loop [3, 4] (fun r i => ∃ (k : Nat) (b : Bool), k ≤ S.size ∧ i = .int .i64 k ∧ r = .bool b ∧ Hid (sayable S.data.toList = (b && sayable (S.data.toList.drop k)))) (fun _ i => S.size - (intOf i).toNat)
  case atStart => exact ⟨0, true, by omega, rfl, rfl, rfl⟩
  case round =>
    obtain ⟨k, b, hk, rfl, rfl, HK⟩ := hrel
    by_cases hlt : k < S.size
    · have hd := drop_cons S k hlt
      have e := unhide HK
      rw [hd, sayable_cons] at e
      clear hd HK
      cases b
      · have HN : Hid (sayable S.data.toList = (false && sayable (S.data.toList.drop (k + 1)))) := by rw [Bool.false_and] at e; exact e
        clear e
        go_wp2
        go_round
        case rel => exact ⟨k + 1, false, by omega, by go_num, rfl, HN⟩
        case measure => simp [intOf]; omega
      · by_cases hb : sayB S[k] = true
        · have HN : Hid (sayable S.data.toList = (true && sayable (S.data.toList.drop (k + 1)))) := by rw [hb] at e; exact e
          have hb' : (S[k].toNat : Int) = 10 ∨ (32 ≤ (S[k].toNat : Int) ∧ (S[k].toNat : Int) ≤ 126) := by
            simp only [sayB, plainB, Bool.or_eq_true, beq_iff_eq, Bool.and_eq_true, decide_eq_true_eq] at hb
            exact or_map hb (fun h => by rw [h]; rfl) id
          clear e hb
          rcases hb' with h10 | ⟨h32, h126⟩
          · have q : ((S[k].toNat : Int) == 10) = true := by simp [h10]
            clear h10
            go_wp2
            go_round
            case rel => exact ⟨k + 1, true, by omega, by go_num, rfl, HN⟩
            case measure => simp [intOf]; omega
          · have q : ((S[k].toNat : Int) == 10) = false := by rw [beq_eq_false_iff_ne]; omega
            go_wp2
            go_round
            case rel => exact ⟨k + 1, true, by omega, by go_num, rfl, HN⟩
            case measure => simp [intOf]; omega
        · have hb := (Bool.not_eq_true _).mp hb
          have HN : Hid (sayable S.data.toList = (false && sayable (S.data.toList.drop (k + 1)))) := by rw [hb] at e; exact e
          have hb' : ((S[k].toNat : Int) == 10) = false ∧ ((S[k].toNat : Int) < 32 ∨ 126 < (S[k].toNat : Int)) := by
            simp only [sayB, plainB, Bool.or_eq_false_iff, beq_eq_false_iff_ne, Bool.and_eq_false_iff, decide_eq_false_iff_not] at hb
            refine ⟨?_, by omega⟩
            rw [beq_eq_false_iff_ne]
            intro h
            exact hb.1 (byte_is (n := 10) (by decide) h)
          clear e hb
          obtain ⟨q, h32 | h126⟩ := hb'
          all_goals
            go_wp2
            go_round
            case rel => exact ⟨k + 1, false, by omega, by go_num, by first | rfl | rw [decide_eq_false (by omega)], HN⟩
            case measure => simp [intOf]; omega
    · have e := unhide HK
      rw [List.drop_of_length_le (by simp; omega)] at e
      have e : sayable S.data.toList = b := by rw [e]; cases b <;> rfl
      clear HK
      have hS' : S.data.toList.length ≤ 1000 := by rw [len_data]; exact hS
      cases b
      · have HJ : Hid (joinAns (join [(0, 5, S.data.toList, 0)]) = .tuple #[.string ⟨#[]⟩, .int .i64 1]) := by
          show _ = _
          rw [join_bad (by rw [say_sound]; exact e)]; rfl
        have HF : Hid (Fits [(0, 5, S.data.toList, 0)]) := one_fits _ (by show S.data.toList.length ≤ _; omega) (by show (-9223372036854775808 : Int) ≤ 0; omega) (by show (0 : Int) ≤ _; omega)
        clear e hS'
        go_wp2_with (first | (go_at_call 12; refine (token_any _ _ _ _ _).mono ?_; rintro e wt ⟨rfl, hbt⟩; replace HB := step0 HB hbt; clear hbt))
        refine (Join_w _ [(0, 5, S.data.toList, 0)] _ _ (TokRow.of_new _ [(0, 5, S.data.toList, 0)] 1 _ rfl) (by simp) (unhide HF) ((unhide HT).below (HB.alloc HB.size _) h5) (Nat.le_trans h5 (HB.alloc HB.size _).size) (unhide HJ)).mono ?_
        rintro e wj ⟨rfl, hbj⟩
        replace HB := step1 HB hbj
        clear hbj
        go_wp2_with (go_at_call 11; refine (LexRuns_any _ ((unhide HG).below HB h5) ((unhide HT).below HB h5) (Nat.le_trans h5 HB.size)).mono ?_; rintro e wl ⟨rfl, hbl⟩)
        go_ret
        exact ⟨rfl, step0 HB hbl⟩
      · have HJ : Hid (joinAns (join [(0, 5, S.data.toList, 0)]) = .tuple #[.string ⟨(quote S.data.toList).toArray⟩, .int .i64 0]) := by
          show _ = _
          rw [quote_join e hS']; rfl
        have HF : Hid (Fits [(0, 5, S.data.toList, 0)]) := one_fits _ (by show S.data.toList.length ≤ _; omega) (by show (-9223372036854775808 : Int) ≤ 0; omega) (by show (0 : Int) ≤ _; omega)
        have HX := hide (quote_lex e hS')
        have hq : ByteArray.size ⟨(quote S.data.toList).toArray⟩ ≤ 140737488355328 := by
          show (quote S.data.toList).toArray.size ≤ _
          have := escs_two S.data.toList
          rw [quote]; simp; simp at hS' this; omega
        clear e hS'
        go_wp2_with (first | (go_at_call 12; refine (token_any _ _ _ _ _).mono ?_; rintro e wt ⟨rfl, hbt⟩; replace HB := step0 HB hbt; clear hbt))
        refine (Join_w _ [(0, 5, S.data.toList, 0)] _ _ (TokRow.of_new _ [(0, 5, S.data.toList, 0)] 1 _ rfl) (by simp) (unhide HF) ((unhide HT).below (HB.alloc HB.size _) h5) (Nat.le_trans h5 (HB.alloc HB.size _).size) (unhide HJ)).mono ?_
        rintro e wj ⟨rfl, hbj⟩
        replace HB := step1 HB hbj
        clear hbj
        have TK : Hid (Calls Tryd.prog 9 #[.string ⟨(quote S.data.toList).toArray⟩] wj fun e w' => ∃ u, e = .returned (.tuple #[u, .nilIface]) ∧ TokRow w' u [(0, 5, S.data.toList, 0)] ∧ Below wj.heap.size wj w') := by
          refine (Tokens_any _ hq wj).mono ?_
          rintro e w' ⟨hb, h⟩
          rw [show lex (⟨(quote S.data.toList).toArray⟩ : ByteArray).data.toList = _ from unhide HX] at h
          obtain ⟨u, rfl, ho⟩ := h
          exact ⟨u, rfl, TokRow.of_owns ho, hb⟩
        clear hq
        go_wp2_with (first | (go_at_call 9; refine (unhide TK).mono ?_; rintro e w1 ⟨u, rfl, hu, hb1⟩; replace HB := step0 HB hb1; clear hb1) | (go_at_call 12; refine (token_any _ _ _ _ _).mono ?_; rintro e wt ⟨rfl, hbt⟩; replace hu := hu.below hbt; replace HB := step0 HB hbt; clear hbt))
        refine (SameTok_any _ _ [(0, 5, S.data.toList, 0)] _ (by simp) (hu.below ((Below.refl _ _).alloc (Nat.le_refl _) _)) (TokRow.of_new _ [(0, 5, S.data.toList, 0)] 1 _ rfl)).mono ?_
        rintro e ws ⟨rfl, hbs⟩
        replace HB := step1 HB hbs
        clear hbs
        go_wp2_with (go_at_call 11; refine (LexRuns_any _ ((unhide HG).below HB h5) ((unhide HT).below HB h5) (Nat.le_trans h5 HB.size)).mono ?_; rintro e wl ⟨rfl, hbl⟩)
        go_ret
        exact ⟨rfl, step0 HB hbl⟩
end Go.Proofs.YtkahhkeohmljaabDoor
