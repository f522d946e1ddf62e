/-
  Plain laws for coilref1.One; coilref1.Quote, walked.
-/
import Derived.Test.YthplgkkailieoaaGreatDoorRefTokens
import Derived.Test.YthplgkkailieoaaGreatDoorLaws6
namespace Go.Proofs.YthplgkkailieoaaGreatDoor
open Go Go.RowKit Lx
namespace Lx
theorem self_lex {k : Int} {S : Bs} (hk : k = 1 ∨ k = 2 ∨ k = 3) (hS : S.length ≤ 65536) (h : cutsSelf k S = true) : lex S = ([(0, k, S, 0)], none) := by
  have hs : sound (0, k, S, 0) = true := by
    rw [sound, if_pos (by simp only; omega)]
    simp [h]
  have ht : tokText (0, k, S, 0) = S := tokText_own (by simp only; omega) (by simp only; omega)
  obtain ⟨h0, hb, hc⟩ := sound_cut (t := (0, k, S, 0)) (r := []) hs (by simp) (.inl rfl)
  rw [ht] at h0 hb hc
  rw [List.append_nil] at hc
  obtain ⟨hk0, _⟩ := begin_skip hb
  have hd0 : S.drop (skip S) = S := by rw [hk0]; rfl
  have hl := Lay.tok S 0 k 0 S S.length [] (by rw [hd0]; exact h0) (by rw [hd0]; exact hb) (by rw [hd0]; exact hc) (Lay.done _ _ (by simp [List.drop_of_length_le]))
  rw [hk0] at hl
  exact lex_of hS hl (by simp)
theorem lex_self {k v : Int} {S : Bs} {p : Nat} (hk : k = 1 ∨ k = 2 ∨ k = 3) (h : lex S = ([(p, k, S, v)], none)) : v = 0 ∧ cutsSelf k S = true := by
  obtain ⟨_, hl, _⟩ := lex_ok h
  rcases hl.back with ⟨_, h⟩ | ⟨k', v', s', m, us, h0, hb, hc, _, he⟩
  · cases h
  · cases he
    obtain ⟨_, _, _, hs, _⟩ := cut_is h0 hb hc
    rw [sound, if_pos (by simp only; omega), Bool.and_eq_true] at hs
    exact ⟨by simpa using hs.1, hs.2⟩
theorem sign_self (S : Bs) : cutsSelf 6 S = signRows.contains S := by
  by_cases h : signRows.contains S = true
  · have hm : S ∈ signRows := by simpa using h
    have hall : ∀ r ∈ signRows, cutsSelf 6 r = true := by decide +kernel
    rw [h, hall S hm]
  · have hn := (Bool.not_eq_true _).mp h
    rw [hn]
    rw [← Bool.not_eq_true]
    intro hc
    apply h
    cases S with
    | nil => simp [cutsSelf] at hc
    | cons c t =>
      simp only [cutsSelf, Bool.and_eq_true] at hc
      obtain ⟨hb, hc⟩ := hc
      rcases hx : cut (c :: t) with ⟨o, y⟩ | ⟨k', s', v', n⟩
      · rw [hx] at hc; cases hc
      · rw [hx] at hc
        simp only [Bool.and_eq_true, beq_iff_eq] at hc
        obtain ⟨hn', hk'⟩ := hc
        subst hk' hn'
        unfold cut at hx
        split at hx
        · unfold cutNumber at hx
          split at hx
          · cases hx
          · split at hx <;> cases hx
        · split at hx
          · unfold cutText at hx
            split at hx <;> cases hx
          · split at hx
            · rename_i hs
              have hf := sign_two (c :: t) hs (by simp)
              unfold cutSign at hx
              split at hx
              · rename_i hp
                rw [if_pos hp] at hf
                injection hx with hx
                have hl : 2 = (c :: t).length := by injection hx with _ hx; injection hx with _ hx; injection hx
                cases t with
                | nil => simp at hl
                | cons d u =>
                  have : u = [] := List.eq_nil_of_length_eq_zero (by simp only [List.length_cons] at hl; omega)
                  subst this
                  simp [List.isPrefixOf] at hp
                  obtain ⟨rfl, rfl⟩ := hp
                  decide
              · rename_i hp
                rw [if_neg hp] at hf
                injection hx with hx
                have hl : 1 = (c :: t).length := by injection hx with _ hx; injection hx with _ hx; injection hx
                have : t = [] := List.eq_nil_of_length_eq_zero (by simp only [List.length_cons] at hl; omega)
                subst this
                have := List.mem_of_find?_eq_some hf
                simpa using this
            · have := (name_is hx).2.2.1
              rcases kind_of s' with h | h | h <;> omega
end Lx
theorem app_esc (A : ByteArray) (s : ByteArray) (k : Nat) (hk : k < s.size) : (A ++ s.extract k (k + 1)).data.toList = A.data.toList ++ [s[k]] ∧ (A ++ s.extract k (k + 1)).size = A.size + 1 := by
  have e : (s.extract k (k + 1)).data.toList = [s[k]] := by
    rw [extract_take, drop_cons s k hk]; rfl
  have h1 : (A ++ s.extract k (k + 1)).data.toList = A.data.toList ++ [s[k]] := by
    rw [← e]; simp
  exact ⟨h1, by rw [← len_data, h1, ← len_data A]; simp⟩
theorem app_lit (A : ByteArray) (l : Bs) : (A ++ ⟨l.toArray⟩).data.toList = A.data.toList ++ l ∧ (A ++ ⟨l.toArray⟩).size = A.size + l.length := by
  have h1 : (A ++ (⟨l.toArray⟩ : ByteArray)).data.toList = A.data.toList ++ l := by simp
  exact ⟨h1, by rw [← len_data, h1, ← len_data A]; simp⟩
theorem quote_ends {A s : ByteArray} (h : A.data.toList = 34 :: escs s.data.toList) : A ++ ⟨#[34]⟩ = ⟨(quote s.data.toList).toArray⟩ := by
  apply ByteArray.ext
  apply Array.ext'
  rw [show (⟨#[34]⟩ : ByteArray) = ⟨[34].toArray⟩ from rfl, (app_lit A [34]).1, h]
  rfl
set_option maxHeartbeats 2000000 in
set_option maxRecDepth 100000 in
theorem rQuote_any (s : ByteArray) (w : World) (hs : s.size ≤ 1000000) : Calls Tryz.prog 64 #[.string s] w fun e w' => e = .returned (.string ⟨(quote s.data.toList).toArray⟩) ∧ w = w' := by
  go_enter Tryz.func64, Tryz.ntmps64
  go_wp2
  go_loop [3, 4] (fun o i => ∃ (k : Nat) (A : ByteArray), k ≤ s.size ∧ i = .int .i64 k ∧ o = .string A ∧ A.size ≤ 1 + 2 * k ∧ Hid (34 :: escs s.data.toList = A.data.toList ++ escs (s.data.toList.drop k))) (fun _ i => s.size - (intOf i).toNat)
  case atStart => exact ⟨0, ⟨#[34]⟩, by omega, rfl, rfl, by decide, rfl⟩
  case round =>
    obtain ⟨k, A, hk, rfl, rfl, hA, HA⟩ := hrel
    by_cases hlt : k < s.size
    · have hd := drop_cons s k hlt
      have e := unhide HA
      rw [hd, escs_cons] at e
      have hlt' : (k : Int) < (s.size : Int) := by omega
      have sl : (Instr.slice 9 (.string s) (some (.int .i64 (k : Int))) (some (.int .i64 ((k : Int) + 1))) none).run Tryz.prog w = .ok (.string (s.extract k (k + 1))) w := by
        have := run_slice_string (P := Tryz.prog) w 9 s .i64 .i64 (k : Int) ((k : Int) + 1) Tryz.underlying9 (by omega) (by omega) (by omega)
        rw [this, show ((k : Int)).toNat = k from by omega, show ((k : Int) + 1).toNat = k + 1 from by omega]
      by_cases h10 : (s[k].toNat : Int) = 10
      · have q1 : ((s[k].toNat : Int) == 10) = true := by simp [h10]
        obtain ⟨a1, a2⟩ := app_lit A [92, 110]
        have HN : Hid (34 :: escs s.data.toList = (A ++ ⟨[92, 110].toArray⟩).data.toList ++ escs (s.data.toList.drop (k + 1))) := by
          show _ = _
          rw [a1, e, byte_is (n := 10) (by decide) h10]
          simp [esc1]
        have hN : (A ++ ⟨[92, 110].toArray⟩).size ≤ 1 + 2 * (k + 1) := by rw [a2]; simp; omega
        clear e h10 hd HA a1 a2
        go_wp2
        go_round
        case rel => exact ⟨k + 1, _, by omega, by go_num, rfl, hN, HN⟩
        case measure => simp [intOf]; omega
      · have q1 : ((s[k].toNat : Int) == 10) = false := by simpa using h10
        have n10 : s[k] ≠ 10 := fun h => h10 (by rw [h]; rfl)
        by_cases hq : (s[k].toNat : Int) = 34 ∨ (s[k].toNat : Int) = 92
        · obtain ⟨b1, b2⟩ := app_lit A [92]
          obtain ⟨a1, a2⟩ := app_esc (A ++ ⟨[92].toArray⟩) s k hlt
          have HN : Hid (34 :: escs s.data.toList = ((A ++ ⟨[92].toArray⟩) ++ s.extract k (k + 1)).data.toList ++ escs (s.data.toList.drop (k + 1))) := by
            show _ = _
            rw [a1, b1, e]
            rcases hq with h | h
            · rw [byte_is (n := 34) (by decide) h]; simp [esc1]
            · rw [byte_is (n := 92) (by decide) h]; simp [esc1]
          have hN : ((A ++ ⟨[92].toArray⟩) ++ s.extract k (k + 1)).size ≤ 1 + 2 * (k + 1) := by rw [a2, b2]; simp; omega
          have hb2 : (A ++ ⟨[92].toArray⟩).size ≤ 2 + 2 * k := by rw [b2]; simp; omega
          have hq' : ((s[k].toNat : Int) == 34) = true ∨ (((s[k].toNat : Int) == 34) = false ∧ ((s[k].toNat : Int) == 92) = true) := by
            rcases hq with h | h
            · left; simp [h]
            · right; constructor <;> simp [h]
          clear e h10 hd HA a1 a2 b1 b2 n10 hq
          rcases hq' with q2 | ⟨q2, q3⟩
          all_goals
            go_wp2
            go_round
            case rel => exact ⟨k + 1, _, by omega, by go_num, rfl, hN, HN⟩
            case measure => simp [intOf]; omega
        · have q2 : ((s[k].toNat : Int) == 34) = false := by simp; omega
          have q3 : ((s[k].toNat : Int) == 92) = false := by simp; omega
          have n34 : s[k] ≠ 34 := fun h => hq (.inl (by rw [h]; rfl))
          have n92 : s[k] ≠ 92 := fun h => hq (.inr (by rw [h]; rfl))
          obtain ⟨a1, a2⟩ := app_esc A s k hlt
          have HN : Hid (34 :: escs s.data.toList = (A ++ s.extract k (k + 1)).data.toList ++ escs (s.data.toList.drop (k + 1))) := by
            show _ = _
            rw [a1, e, esc1, if_neg n10, if_neg n34, if_neg n92]
            simp
          have hN : (A ++ s.extract k (k + 1)).size ≤ 1 + 2 * (k + 1) := by rw [a2]; omega
          clear e h10 hd HA a1 a2 n10 n34 n92 hq
          go_wp2
          go_round
          case rel => exact ⟨k + 1, _, by omega, by go_num, rfl, hN, HN⟩
          case measure => simp [intOf]; omega
    · have HE : Hid (A ++ ⟨#[34]⟩ = ⟨(quote s.data.toList).toArray⟩) := by
        have e := unhide HA
        rw [List.drop_of_length_le (i := k) (by simp; omega)] at e
        exact quote_ends (by rw [e]; simp [escs])
      clear HA
      go_wp2
      go_ret
      exact ⟨congrArg (fun x => Ending.returned (Value.string x)) (unhide HE), rfl⟩
end Go.Proofs.YthplgkkailieoaaGreatDoor
