/-
  coillaw10.ValuePlain: other numbers, long texts. Own work.
-/
import Derived.Test.YtnkcibcodabkiaaGreatDoorVPb
namespace Go.Proofs.YtnkcibcodabkiaaGreatDoor
open Go Go.RowKit Go.Proofs Am

set_option maxHeartbeats 4000000 in
set_option maxRecDepth 100000 in
theorem plain_pl (n : Int) (s0 : ByteArray) (w : World) (hG : GlobOk w) (n0 : 0 ≤ n) (n1 : n ≤ 9223372036854775807) (hs0 : 5000 < s0.size)
    (RUN : ∀ W, GlobOk W → Calls Tryz.prog 3 #[] W fun e w' => e = .returned (.bool true) ∧ Below W.heap.size W w') :
    Calls Tryz.prog 5 #[.int .i64 n, .string s0] w fun e w' => e = .returned (.bool true) ∧ Below w.heap.size w w' := by
  have hlt : 0 < w.heap.size := hG.lt (isG_tab (cs := _) (show gtab 0 = some _ from rfl))
  have ht := tab_of hG
  have MD := hide (made_at w hG)
  have hno : (5000 : Int) < s0.size := by omega
  obtain ⟨s, hse⟩ : ∃ s, s0.extract 0 5000 = s := ⟨_, rfl⟩
  have hs : s.size ≤ 5000 := by rw [← hse, ByteArray.size_extract]; omega
  have sl := fun W => run_slice_string_h (P := Tryz.prog) (w := W) (t := 9) s0 Tryz.underlying9 .i64 5000 (by omega) (by omega)
  rw [show (5000 : Int).toNat = 5000 from rfl, hse] at sl
  clear hse hs0
  go_enter Tryz.func5, Tryz.ntmps5
  go_wp2_with (go_at_call 7; refine (unhide MD).mono ?_)
  clear MD
  rintro e w1 ⟨ρ, C, a, rfl, hA, hb1⟩
  obtain ⟨ca, rfl⟩ := hA.ptr
  have hlt1 : w.heap.size < w1.heap.size := by
    obtain ⟨s0, h1, h2⟩ := hA.held.rel
    have hv := hA.val
    rw [VR] at hv
    obtain ⟨_, ⟨x, hx, rfl⟩, _⟩ := hv
    exact Nat.lt_of_le_of_lt (hA.held.old 16 x (.inl ⟨_, mem_at 7 rfl⟩) hx) (h2.lt _ _ hx)
  obtain ⟨ρ2, x, y, hA2, hx, hcx, hy, hcy⟩ := marks hG hA hlt1 n s
  have LN := hide (len_at hA2)
  have TI := hide (T_int hA2 n hx hcx (by omega) n1 (var?_below hb1 pow_global hlt ht) hlt)
  have hA2 := hide hA2
  have hy := hide hy
  have hcy := hide hcy
  clear hA hlt1 hx hcx
  go_wp2_with (go_at_call 17; refine (unhide LN).mono ?_)
  clear LN
  rintro e w2 ⟨rfl, rfl⟩
  go_wp2_with (go_at_call 11; refine (unhide TI).mono ?_)
  clear TI
  rintro e w2 ⟨rfl, ρ3, s3, hA3, hb2⟩
  obtain ⟨m, rfl⟩ : ∃ m : Nat, n = (m : Int) := ⟨n.toNat, by omega⟩
  have hD : (Lib.itoa (m : Int)) = Lib.decDigits m := Lib.itoa_nonneg m
  have hNu := num_of m
  have hil := Lib.itoa_length_le (m : Int) (by omega) n1
  rw [hD] at hil ⊢
  obtain ⟨D, hDD⟩ : ∃ D : ByteArray, D = ⟨(Lib.decDigits m).toArray⟩ := ⟨_, rfl⟩
  have hDl : D.data.toList = Lib.decDigits m := by rw [hDD]
  rw [← hDl] at hNu hil
  rw [← hDD]
  clear hDD hDl hD
  have hsz : D.data.toList.length = D.size := by simp
  have hp : 0 < D.size := by
    rw [← hsz]
    exact Nat.pos_of_ne_zero fun e => hNu.ne (List.length_eq_zero_iff.1 e)
  rw [hsz] at hil
  have hz : ((D.size : Int) == 0) = false := by simp; intro e; rw [e] at hp; exact absurd hp (by decide)
  have hze : ¬ D = ByteArray.empty := fun e => by rw [e] at hp; exact absurd hp (by decide)
  have hNu := hide hNu
  have s3 := hide s3
  have hA3 := hide hA3
  have hb12 := hide (hb1.trans hb2)
  clear hA2 hsz hb1 hb2
  have hneg : ¬ (m : Int) < 0 := by omega
  go_wp2
  go_loop [10, 11] (fun b i => ∃ k : Nat, k ≤ D.size ∧ i = .int .i64 k ∧ b = .int .i64 (IntKind.i64.wrap (valD (D.data.toList.take k) : Int))) (fun _ i => D.size - (intOf i).toNat)
  case atStart => exact ⟨0, by omega, by go_num, rfl⟩
  case round =>
    obtain ⟨k, hk, rfl, rfl⟩ := hrel
    by_cases hlt : k < D.size
    · obtain ⟨e1, e2, e3, e4⟩ := val_step (unhide hNu) hlt
      obtain ⟨v, hv⟩ : ∃ v, v = valD (D.data.toList.take k) := ⟨_, rfl⟩
      rw [← hv] at e1 e2 ⊢
      have w1 : IntKind.i64.wrap (v : Int) = v := wrap_small _ (by omega) (by omega)
      have w2 : IntKind.i64.wrap ((v : Int) * 10) = (v : Int) * 10 := wrap_small _ (by omega) (by omega)
      have w3 : IntKind.u8.wrap ((D[k].toNat : Int) - 48) = (D[k].toNat : Int) - 48 := by rw [IntKind.wrap_u8]; omega
      have t1 : ¬ (D[k].toNat : Int) < 48 := by omega
      have t2 : ¬ (57 : Int) < (D[k].toNat : Int) := by omega
      rw [w1]
      have e1 := hide e1
      clear hv e2
      go_wp2
      go_round
      case rel => exact ⟨k + 1, by omega, by go_num, by have e := unhide e1; rw [e, show ((v * 10 + (D[k].toNat - 48) : Nat) : Int) = (v : Int) * 10 + ((D[k].toNat : Int) - 48) by omega]; rw [IntKind.wrap_i64]; unfold wrap64; rfl⟩
      case measure => simp [intOf]; omega
    · obtain rfl : k = D.size := by omega
      have e5 : IntKind.i64.wrap ((valD (D.data.toList.take D.size) : Nat) : Int) = (m : Int) := by
        rw [show D.data.toList.take D.size = D.data.toList from List.take_of_length_le (by simp), (unhide hNu).val]
        exact wrap_small _ (by omega) (by omega)
      rw [e5]
      clear hk hlt e5
      have hy3 : ρ3 30 = some y := unhide s3 _ _ (unhide hy)
      obtain ⟨q, hq⟩ : ∃ q, textT s.data.toList = q := ⟨_, rfl⟩
      have TT : Hid (Calls Tryz.prog 11 #[.pointer (some ca), .agg #[.int .i64 3, .int .i64 1, .int .i64 0, .string s, .slice none 0 0]] w2 fun e w' => (∃ u c, e = .returned (.tuple #[.string u, .int .i64 c]) ∧ Hid ((c == 0) = q ∧ (q = true → u = s))) ∧ ∃ ρ', At w.heap.size ρ' 37 (.pointer (some ca)) w' ∧ Below w.heap.size w2 w') := by
        cases q with
        | true =>
          have h4 : s.size ≤ 4096 := by
            rw [textT_eq, Bool.and_eq_true] at hq
            have := of_decide_eq_true hq.1
            omega
          refine (T_text (unhide hA3) s hy3 (unhide hcy) hs hq h4).mono ?_
          rintro e w' ⟨rfl, ρ', _, h1, h2⟩
          exact ⟨⟨_, _, rfl, ⟨rfl, fun _ => rfl⟩⟩, ρ', h1, h2⟩
        | false =>
          refine (T_bad (unhide hA3) s hy3 (unhide hcy) hs hq).mono ?_
          rintro e w' ⟨rfl, ρ', _, h1, h2⟩
          exact ⟨⟨_, _, rfl, ⟨rfl, fun h => by cases h⟩⟩, ρ', h1, h2⟩
      have hq := hide hq
      clear hy hcy s3 hy3 hA3
      go_wp2_with (go_at_call 11; refine (unhide TT).mono ?_)
      clear TT
      rintro e w3 u c rfl hc ρ4 hA4 hb3
      have hA4 := hide hA4
      have hb123 := hide ((unhide hb12).trans hb3)
      clear hb12 hb3
      go_wp2
      go_loop [14, 15] (fun o i => ∃ k : Nat, k ≤ s.size ∧ i = .int .i64 k ∧ o = .bool (decide ((s.size : Int) ≤ 4096) && allT (s.data.toList.take k))) (fun _ i => s.size - (intOf i).toNat)
      case atStart => exact ⟨0, by omega, by go_num, by simp [allT]⟩
      case round =>
        obtain ⟨k, hk, rfl, rfl⟩ := hrel
        by_cases hlt : k < s.size
        · have st := allT_step hlt
          obtain ⟨r, hr⟩ : ∃ r, r = (decide ((s.size : Int) ≤ 4096) && allT (s.data.toList.take k)) := ⟨_, rfl⟩
          have st2 : Hid ((decide ((s.size : Int) ≤ 4096) && allT (s.data.toList.take (k + 1))) = (r && okT s[k])) := by
            show _ = _
            rw [st, hr, Bool.and_assoc]
          rw [← hr]
          clear st hr
          cases r with
          | false =>
            have N : Hid ((decide ((s.size : Int) ≤ 4096) && allT (s.data.toList.take (k + 1))) = false) := unhide st2
            clear st2
            go_wp2
            go_round
            case rel => exact ⟨k + 1, by omega, by go_num, by rw [unhide N]⟩
            case measure => simp [intOf]; omega
          | true =>
            have st2 : Hid ((decide ((s.size : Int) ≤ 4096) && allT (s.data.toList.take (k + 1))) = okT s[k]) := unhide st2
            by_cases h10 : s[k].toNat = 10
            · have N : Hid ((decide ((s.size : Int) ≤ 4096) && allT (s.data.toList.take (k + 1))) = true) := (unhide st2).trans ((okT_iff _).2 (.inl h10))
              clear st2
              have t1 : ((s[k].toNat : Int) == 10) = true := by simp [h10]
              go_wp2
              go_round
              case rel => exact ⟨k + 1, by omega, by go_num, by rw [unhide N]⟩
              case measure => simp [intOf]; omega
            · have t1 : ((s[k].toNat : Int) == 10) = false := by simp; omega
              by_cases h32 : s[k].toNat < 32
              · have N : Hid ((decide ((s.size : Int) ≤ 4096) && allT (s.data.toList.take (k + 1))) = false) := (unhide st2).trans (by
                  cases hq : okT s[k] with
                  | false => rfl
                  | true => rcases (okT_iff _).1 hq with h | h <;> omega)
                clear st2
                have t2 : ¬ (32 : Int) ≤ (s[k].toNat : Int) := by omega
                go_wp2
                go_round
                case rel => exact ⟨k + 1, by omega, by go_num, by rw [unhide N]⟩
                case measure => simp [intOf]; omega
              · by_cases h126 : 126 < s[k].toNat
                · have N : Hid ((decide ((s.size : Int) ≤ 4096) && allT (s.data.toList.take (k + 1))) = false) := (unhide st2).trans (by
                    cases hq : okT s[k] with
                    | false => rfl
                    | true => rcases (okT_iff _).1 hq with h | h <;> omega)
                  clear st2
                  have t2 : (32 : Int) ≤ (s[k].toNat : Int) := by omega
                  have t3 : ¬ (s[k].toNat : Int) ≤ 126 := by omega
                  go_wp2
                  go_round
                  case rel => exact ⟨k + 1, by omega, by go_num, by rw [unhide N]⟩
                  case measure => simp [intOf]; omega
                · have N : Hid ((decide ((s.size : Int) ≤ 4096) && allT (s.data.toList.take (k + 1))) = true) := (unhide st2).trans ((okT_iff _).2 (.inr ⟨by omega, by omega⟩))
                  clear st2
                  have t2 : (32 : Int) ≤ (s[k].toNat : Int) := by omega
                  have t3 : (s[k].toNat : Int) ≤ 126 := by omega
                  go_wp2
                  go_round
                  case rel => exact ⟨k + 1, by omega, by go_num, by rw [unhide N]⟩
                  case measure => simp [intOf]; omega
        · obtain rfl : k = s.size := by omega
          have e6 : (decide ((s.size : Int) ≤ 4096) && allT (s.data.toList.take s.size)) = q := by
            rw [show s.data.toList.take s.size = s.data.toList from List.take_of_length_le (by simp), ← textT_eq]
            exact unhide hq
          rw [e6]
          clear hk hlt e6 hq
          have WI := hide (within_one (m : Int) w3 (by omega) n1)
          have BT := hide (T_true (unhide hA4))
          have BF := hide (T_false (unhide hA4))
          clear hA4
          go_wp2_with (go_at_call 16; refine (unhide WI).mono ?_)
          clear WI
          refine ⟨?_, ?_⟩
          · clear BT
            go_wp2_with (go_at_call 11; refine (unhide BF).mono ?_)
            clear BF
            rintro e w5 ⟨rfl, ρ5, _, hA5, hb5⟩
            rw [show boolS false = ⟨#[102, 97, 108, 115, 101]⟩ from rfl]
            have hG5 : GlobOk w5 := by
              obtain ⟨s0, _, h2⟩ := hA5.held.rel
              exact h2.gl
            have RN := hide (RUN w5 hG5)
            have hb5 := hide ((unhide hb123).trans hb5)
            have hl5 := hide hA5.low
            clear hA5 hG5 hb123 RUN
            have hd : ∃ r, (D.toList == [48]) = r ∧ (r = false → ((D[0].toNat : Int) == 48) = false) := by
              refine ⟨_, rfl, fun h => ?_⟩
              rw [Lib.toList_data] at h
              rcases (unhide hNu).lead with h2 | h2
              · rw [h2] at h; exact absurd h (by decide)
              · have := h2 D[0] (by rw [← at_list hp]; exact List.getElem?_eq_getElem (by simpa using hp))
                simp
                omega
            obtain ⟨r, hr, hr2⟩ := hd
            obtain ⟨hc1, hc2⟩ := unhide hc
            clear hc
            cases q with
            | true =>
              obtain rfl : c = 0 := by simpa using hc1
              obtain rfl := hc2 rfl
              clear hc1 hc2
              cases r with
              | true =>
                clear hr2
                go_wp2_with (go_at_call 3; refine (unhide RN).mono ?_)
                rintro e w6 ⟨rfl, hb6⟩
                go_wp2
                go_ret
                exact ⟨rfl, (unhide hb5).trans (hb6.mono (unhide hl5))⟩
              | false =>
                have hr3 := hr2 rfl
                have hr4 : ¬ (D[0].toNat : Int) = 48 := by simpa using hr3
                clear hr2
                go_wp2_with (go_at_call 3; refine (unhide RN).mono ?_)
                rintro e w6 ⟨rfl, hb6⟩
                go_wp2
                go_ret
                exact ⟨congrArg (fun b => Ending.returned (Value.bool b)) (show ((D[0].toNat : Int) != 48) = true by simp [bne, hr3]), (unhide hb5).trans (hb6.mono (unhide hl5))⟩
            | false =>
              clear hc2
              cases r with
              | true =>
                clear hr2
                go_wp2_with (go_at_call 3; refine (unhide RN).mono ?_)
                rintro e w6 ⟨rfl, hb6⟩
                go_wp2
                go_ret
                exact ⟨rfl, (unhide hb5).trans (hb6.mono (unhide hl5))⟩
              | false =>
                have hr3 := hr2 rfl
                have hr4 : ¬ (D[0].toNat : Int) = 48 := by simpa using hr3
                clear hr2
                go_wp2_with (go_at_call 3; refine (unhide RN).mono ?_)
                rintro e w6 ⟨rfl, hb6⟩
                go_wp2
                go_ret
                exact ⟨congrArg (fun b => Ending.returned (Value.bool b)) (show ((D[0].toNat : Int) != 48) = true by simp [bne, hr3]), (unhide hb5).trans (hb6.mono (unhide hl5))⟩
          · clear BF
            go_wp2_with (go_at_call 11; refine (unhide BT).mono ?_)
            clear BT
            rintro e w5 ⟨rfl, ρ5, _, hA5, hb5⟩
            rw [show boolS true = ⟨#[116, 114, 117, 101]⟩ from rfl]
            have hG5 : GlobOk w5 := by
              obtain ⟨s0, _, h2⟩ := hA5.held.rel
              exact h2.gl
            have RN := hide (RUN w5 hG5)
            have hb5 := hide ((unhide hb123).trans hb5)
            have hl5 := hide hA5.low
            clear hA5 hG5 hb123 RUN
            have hd : ∃ r, (D.toList == [48]) = r ∧ (r = false → ((D[0].toNat : Int) == 48) = false) := by
              refine ⟨_, rfl, fun h => ?_⟩
              rw [Lib.toList_data] at h
              rcases (unhide hNu).lead with h2 | h2
              · rw [h2] at h; exact absurd h (by decide)
              · have := h2 D[0] (by rw [← at_list hp]; exact List.getElem?_eq_getElem (by simpa using hp))
                simp
                omega
            obtain ⟨r, hr, hr2⟩ := hd
            obtain ⟨hc1, hc2⟩ := unhide hc
            clear hc
            cases q with
            | true =>
              obtain rfl : c = 0 := by simpa using hc1
              obtain rfl := hc2 rfl
              clear hc1 hc2
              cases r with
              | true =>
                clear hr2
                go_wp2_with (go_at_call 3; refine (unhide RN).mono ?_)
                rintro e w6 ⟨rfl, hb6⟩
                go_wp2
                go_ret
                exact ⟨rfl, (unhide hb5).trans (hb6.mono (unhide hl5))⟩
              | false =>
                have hr3 := hr2 rfl
                have hr4 : ¬ (D[0].toNat : Int) = 48 := by simpa using hr3
                clear hr2
                go_wp2_with (go_at_call 3; refine (unhide RN).mono ?_)
                rintro e w6 ⟨rfl, hb6⟩
                go_wp2
                go_ret
                exact ⟨congrArg (fun b => Ending.returned (Value.bool b)) (show ((D[0].toNat : Int) != 48) = true by simp [bne, hr3]), (unhide hb5).trans (hb6.mono (unhide hl5))⟩
            | false =>
              clear hc2
              cases r with
              | true =>
                clear hr2
                go_wp2_with (go_at_call 3; refine (unhide RN).mono ?_)
                rintro e w6 ⟨rfl, hb6⟩
                go_wp2
                go_ret
                exact ⟨rfl, (unhide hb5).trans (hb6.mono (unhide hl5))⟩
              | false =>
                have hr3 := hr2 rfl
                have hr4 : ¬ (D[0].toNat : Int) = 48 := by simpa using hr3
                clear hr2
                go_wp2_with (go_at_call 3; refine (unhide RN).mono ?_)
                rintro e w6 ⟨rfl, hb6⟩
                go_wp2
                go_ret
                exact ⟨congrArg (fun b => Ending.returned (Value.bool b)) (show ((D[0].toNat : Int) != 48) = true by simp [bne, hr3]), (unhide hb5).trans (hb6.mono (unhide hl5))⟩
end Go.Proofs.YtnkcibcodabkiaaGreatDoor
