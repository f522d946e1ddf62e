/-
  coillaw1.letters and coillaw1.LexWords, walked: it answers true, whatever texts it is handed.
-/
import Derived.Test.YtkahhkeohmljaabDoorLexed
import Derived.Test.YtkahhkeohmljaabDoorLaws8
namespace Go.Proofs.YtkahhkeohmljaabDoor
open Go Go.RowKit Lx

def Letters (L : ByteArray) : Prop := L.size ≤ 20 ∧ ∀ c ∈ L.data.toList, letterB (c.toNat : Int) = true
theorem Letters.nil : Letters ⟨#[]⟩ := ⟨by decide, by simp⟩
theorem Letters.more {L s : ByteArray} {k : Nat} (h : Letters L) (hl : L.size < 20) (hk : k < s.size) (hc : letterB (s[k].toNat : Int) = true) : Letters (L ++ s.extract k (k + 1)) := by
  have e : (s.extract k (k + 1)).data.toList = [s[k]] := by
    rw [extract_take, drop_cons s k hk]
    simp
  have e1 : (s.extract k (k + 1)).size = 1 := by rw [← len_data, e]; rfl
  refine ⟨by rw [ByteArray.size_append, e1]; omega, fun c hcm => ?_⟩
  rw [ByteArray.data_append, Array.toList_append, List.mem_append, e] at hcm
  rcases hcm with hcm | hcm
  · exact h.2 c hcm
  · rw [List.mem_singleton.1 hcm]; exact hc
set_option maxHeartbeats 2000000 in
set_option maxRecDepth 100000 in
theorem letters_any (s : ByteArray) (w : World) (hs : s.size ≤ 9223372036854775807) :
    Calls Tryd.prog 15 #[.string s] w fun e w' => ∃ L, e = .returned (.string L) ∧ Letters L ∧ w = w' := by
  go_enter Tryd.func15, Tryd.ntmps15
  go_wp2
  go_loop [3, 4] (fun o i => ∃ (k : Nat) (L : ByteArray), k ≤ s.size ∧ i = .int .i64 k ∧ o = .string L ∧ Hid (Letters L) ∧ L.size ≤ 20) (fun _ i => s.size - (intOf i).toNat)
  case atStart => exact ⟨0, ⟨#[]⟩, by omega, rfl, rfl, Letters.nil, by decide⟩
  case round =>
    obtain ⟨k, L, hk, rfl, rfl, HL, hL⟩ := hrel
    by_cases hlt : k < s.size
    · by_cases h20 : L.size < 20
      · by_cases hc : letterB (s[k].toNat : Int) = true
        · have HN : Hid (Letters (L ++ s.extract k (k + 1))) := (unhide HL).more h20 hlt hc
          have sl : (Instr.slice 9 (.string s) (some (.int .i64 (k : Int))) (some (.int .i64 ((k : Int) + 1))) none).run Tryd.prog w = .ok (.string (s.extract k (k + 1))) w := by
            have := run_slice_string (P := Tryd.prog) w 9 s .i64 .i64 (k : Int) ((k : Int) + 1) Tryd.underlying9 (by omega) (by omega) (by omega)
            rw [this, show ((k : Int)).toNat = k from by omega, show ((k : Int) + 1).toNat = k + 1 from by omega]
          have hN := (unhide HN).1
          have hb : (97 ≤ (s[k].toNat : Int) ∧ (s[k].toNat : Int) ≤ 122) ∨ ((s[k].toNat : Int) < 97 ∧ 65 ≤ (s[k].toNat : Int) ∧ (s[k].toNat : Int) ≤ 90) := by
            have : (97 ≤ (s[k].toNat : Int) ∧ (s[k].toNat : Int) ≤ 122) ∨ (65 ≤ (s[k].toNat : Int) ∧ (s[k].toNat : Int) ≤ 90) := by simpa [letterB, smallB, greatB] using hc
            omega
          clear hc HL
          rcases hb with ⟨b1, b2⟩ | ⟨b0, b1, b2⟩
          all_goals
            go_wp2
            go_round
            case rel => exact ⟨k + 1, _, by omega, by go_num, rfl, HN, hN⟩
            case measure => simp [intOf]; omega
        · have hb : (s[k].toNat : Int) < 65 ∨ (90 < (s[k].toNat : Int) ∧ (s[k].toNat : Int) < 97) ∨ 122 < (s[k].toNat : Int) := by
            have : ¬ ((97 ≤ (s[k].toNat : Int) ∧ (s[k].toNat : Int) ≤ 122) ∨ (65 ≤ (s[k].toNat : Int) ∧ (s[k].toNat : Int) ≤ 90)) := by simpa [letterB, smallB, greatB] using hc
            omega
          clear hc
          rcases hb with b1 | ⟨b1, b2⟩ | b1
          all_goals
            go_wp2
            go_round
            case rel => exact ⟨k + 1, L, by omega, by go_num, rfl, HL, hL⟩
            case measure => simp [intOf]; omega
      · go_wp2
        go_ret
        exact ⟨L, rfl, unhide HL, rfl⟩
    · go_wp2
      go_ret
      exact ⟨L, rfl, unhide HL, rfl⟩

set_option maxHeartbeats 10000000 in
set_option maxRecDepth 100000 in
theorem LexWords_any (s0 s1 : ByteArray) (w : World) (hs0 : s0.size ≤ 9223372036854775807) (hs1 : s1.size ≤ 9223372036854775807) (hg : ErrType w) (ht : Tab w) (h5 : 5 ≤ w.heap.size) :
    Calls Tryd.prog 5 #[.string s0, .string s1] w fun e w' => e = .returned (.bool true) ∧ Below w.heap.size w w' := by
  have HB : Below w.heap.size w w := Below.refl _ _
  have RN := hide (fun W (hb : Below w.heap.size w W) => Runs_b (w0 := w) W hb hg ht h5)
  clear hg ht
  go_enter Tryd.func5, Tryd.ntmps5
  go_wp2_with (go_at_call 15; refine (letters_any s0 _ hs0).mono ?_; rintro e w' ⟨A, rfl, HA, rfl⟩; clear hs0)
  refine (letters_any s1 _ hs1).mono ?_
  rintro e w' ⟨B, rfl, HC, rfl⟩
  clear hs1
  have hA := HA.1
  have hB := HC.1
  by_cases h0 : A.size = 0
  · have he := empty_of h0
    clear HA HC
    go_wp2_with (go_at_call 11; refine (unhide RN _ HB).mono ?_; rintro e wl ⟨rfl, hbl⟩)
    go_ret
    exact ⟨rfl, step0 HB hbl⟩
  · have he := not_empty_of h0
    by_cases h32 : 32 < A.size + B.size
    · have h32' : 32 < (A.size : Int) + (B.size : Int) := by omega
      clear HA HC
      go_wp2_with (go_at_call 11; refine (unhide RN _ HB).mono ?_; rintro e wl ⟨rfl, hbl⟩)
      go_ret
      exact ⟨rfl, step0 HB hbl⟩
    · have h32' : (A.size : Int) + (B.size : Int) ≤ 32 := by omega
      obtain ⟨X, hX⟩ : ∃ X : ByteArray, A ++ B = X := ⟨_, rfl⟩
      have hXl : X.data.toList = A.data.toList ++ B.data.toList := by rw [← hX, ByteArray.data_append, Array.toList_append]
      have hAn : A.data.toList ≠ [] := ne_nil_of h0
      have hXn : X.data.toList ≠ [] := by rw [hXl]; simp [hAn]
      have hXs : X.data.toList.length ≤ 32 := by rw [hXl, List.length_append, len_data, len_data]; omega
      have hXa : ∀ c ∈ X.data.toList, letterB (c.toNat : Int) = true := by
        intro c hc
        rw [hXl, List.mem_append] at hc
        rcases hc with hc | hc
        · exact HA.2 c hc
        · exact HC.2 c hc
      have hp : 0 < A.size := by omega
      have hXh : hd X.data.toList = ((A[0]'hp).toNat : Int) := by
        rw [hXl, hd_app _ hAn]
        have := hd_at A 0 hp
        rw [List.drop_zero] at this
        exact this
      have hsz : X.size ≤ 140737488355328 := by rw [← len_data]; omega
      have TK := hide (fun W => Tokens_ok X _ W hsz (letters_lex hXn hXs hXa))
      have hY : (A ++ ⟨#[32]⟩ ++ B).data.toList = A.data.toList ++ 32 :: B.data.toList := by
        rw [ByteArray.data_append, ByteArray.data_append]; simp
      have hYs : (A ++ ⟨#[32]⟩ ++ B).size ≤ 140737488355328 := by rw [← len_data, hY, List.length_append, List.length_cons, len_data, len_data]; omega
      have TK2 : Hid (∀ W, Calls Tryd.prog 9 #[.string (A ++ ⟨#[32]⟩ ++ B)] W fun e w' => ∃ v us, e = .returned (.tuple #[v, .nilIface]) ∧ TokRow w' v ((0, kindOf A.data.toList, A.data.toList, 0) :: us) ∧ (us.length = if B.toList.isEmpty = true then 0 else 1) ∧ Below W.heap.size W w') := by
        intro W
        have hAl : A.data.toList.length ≤ 32 := by rw [len_data]; omega
        by_cases hBe : B.size = 0
        · refine (Tokens_ok _ _ W hYs (by rw [hY, nil_of hBe]; exact letters_blank hAn hAl HA.2)).mono ?_
          rintro e w' ⟨v, rfl, hv, hb⟩
          exact ⟨v, _, rfl, hv, by rw [empty_of hBe]; rfl, hb⟩
        · refine (Tokens_ok _ _ W hYs (by rw [hY]; exact letters_two hAn hAl HA.2 (ne_nil_of hBe) (by rw [len_data]; omega) HC.2)).mono ?_
          rintro e w' ⟨v, rfl, hv, hb⟩
          exact ⟨v, _, rfl, hv, by rw [not_empty_of hBe]; rfl, hb⟩
      have KD : Hid ((words.contains X.data.toList = true → kindOf X.data.toList = 3) ∧ (words.contains X.data.toList = false → (65 ≤ ((A[0]'hp).toNat : Int) ∧ ((A[0]'hp).toNat : Int) ≤ 90 → kindOf X.data.toList = 2) ∧ (¬ (65 ≤ ((A[0]'hp).toNat : Int) ∧ ((A[0]'hp).toNat : Int) ≤ 90) → kindOf X.data.toList = 1))) := by
        refine ⟨word_kind, fun hw => ⟨fun hr => great_kind ?_, fun hr => name_kind ?_ hw⟩⟩
        · rw [hXh]; simpa [greatB] using hr
        · rw [hXh, Bool.eq_false_iff]; intro hq; exact hr (by simpa [greatB] using hq)
      clear hXl hXn hXs hXa hXh hsz hY hYs HA HC hAn
      go_wp2_with (go_at_call 16; refine (Words_any _).mono ?_; rintro e wv ⟨rfl, rfl⟩)
      have HW := hide (word_cell w)
      have HB1 := HB.alloc HB.size (.cells wordCells 9)
      clear HB
      revert HW HB1
      generalize w.alloc (.cells wordCells 9) = W1
      intro HW HB1
      go_loop [5, 7] (fun f i => ∃ (k : Nat) (b : Bool), k ≤ 25 ∧ i = .int .i64 k ∧ f = .bool b ∧ Hid (b = (words.take k).contains X.data.toList)) (fun _ i => 25 - (intOf i).toNat)
      case atStart => exact ⟨0, false, by omega, rfl, rfl, rfl⟩
      case round =>
        obtain ⟨k, b, hk, rfl, rfl, HK⟩ := hrel
        by_cases hlt : k < 25
        · have c0 := unhide HW k (by simpa [wordStrs, words] using hlt)
          rw [Nat.zero_add] at c0
          have hlt' : (k : Int) < 25 := by omega
          have hwl : k < words.length := by simpa [words] using hlt
          have htk : words.take (k + 1) = words.take k ++ [words.getD k []] := by
            rw [List.take_add_one, List.getD_eq_getElem?_getD, List.getElem?_eq_getElem hwl]; rfl
          have hws : (wordStrs.getD k ByteArray.empty).data.toList = words.getD k [] := by
            simp [wordStrs, List.getD_eq_getElem?_getD, List.getElem?_eq_getElem hwl]
          have HN : Hid ((words.take (k + 1)).contains X.data.toList = (b || decide (wordStrs.getD k ByteArray.empty = X))) := by
            have e := unhide HK
            show _ = _
            rw [htk, List.contains_append, ← e]
            congr 1
            rw [Bool.eq_iff_iff]
            simp only [List.contains_cons, List.contains_nil, Bool.or_false, beq_iff_eq, decide_eq_true_eq]
            rw [← hws]
            constructor
            · intro h; apply ByteArray.ext; apply Array.ext'; exact h.symm
            · intro h; rw [h]
          clear htk hws HK
          revert c0 HN
          generalize wordStrs.getD k ByteArray.empty = ws
          intro c0 HN
          cases b
          · by_cases hw : ws = X
            · subst hw
              go_wp2
              go_round
              case rel => exact ⟨k + 1, true, by omega, by go_num, rfl, by have e := unhide HN; show _ = _; rw [e]; simp⟩
              case measure => simp [intOf]; omega
            · have q : (ws.toList == X.toList) = false := by
                rw [beq_eq_false_iff_ne, toList_data, toList_data]
                intro h; apply hw; apply ByteArray.ext; apply Array.ext'; exact h
              go_wp2
              go_round
              case rel => exact ⟨k + 1, false, by omega, by go_num, rfl, by have e := unhide HN; show _ = _; rw [e]; simp [hw]⟩
              case measure => simp [intOf]; omega
          · go_wp2
            go_round
            case rel => exact ⟨k + 1, true, by omega, by go_num, rfl, by have e := unhide HN; show _ = _; rw [e]; simp⟩
            case measure => simp [intOf]; omega
        · have e := unhide HK
          rw [show words.take k = words from List.take_of_length_le (by simp [words]; omega)] at e
          obtain ⟨kd, hkd⟩ : ∃ kd : Int, kindOf X.data.toList = kd := ⟨_, rfl⟩
          have KD1 := unhide KD
          rw [hkd, ← e] at KD1
          rw [hkd] at TK
          obtain ⟨ka, hka⟩ : ∃ ka : Int, kindOf A.data.toList = ka := ⟨_, rfl⟩
          rw [hka] at TK2
          clear e HK KD hkd hka HW
          obtain ⟨a0, ha0⟩ : ∃ a0 : Int, a0 = ((A[0]'hp).toNat : Int) := ⟨_, rfl⟩
          rw [← ha0] at KD1
          have hr : a0 < 65 ∨ (65 ≤ a0 ∧ a0 ≤ 90) ∨ 90 < a0 := by omega
          have TKa := hide (fun W => (unhide TK W).mono (fun e w' (h : ∃ v, e = .returned (.tuple #[v, .nilIface]) ∧ TokRow w' v [(0, kd, X.data.toList, 0)] ∧ Below W.heap.size W w') => (by
            obtain ⟨v, rfl, ⟨p, c, rfl, hp1⟩, hb⟩ := h
            obtain ⟨g, o, rfl, c0, c1, c2, c3⟩ := hp1 0 _ rfl
            have hgl := cell_lt c1
            exact ⟨g, o, c, rfl, hb, fun W' hb' => ⟨(hb'.cell (p := ⟨g, _, none⟩) hgl).trans c1, (hb'.cell (p := ⟨g, _, none⟩) hgl).trans c2, (hb'.cell (p := ⟨g, _, none⟩) hgl).trans c3⟩⟩ :
            ∃ g o c, e = .returned (.tuple #[.slice (some ⟨g, o, none⟩) 1 c, .nilIface]) ∧ Below W.heap.size W w' ∧ ∀ W', Below w'.heap.size w' W' → W'.cell? ⟨g, o + 1, none⟩ = some (.int .i64 kd) ∧ W'.cell? ⟨g, o + 2, none⟩ = some (.string X) ∧ W'.cell? ⟨g, o + 3, none⟩ = some (.int .i64 0))))
          have TKb := hide (fun W => (unhide TK2 W).mono (fun e w' (h : ∃ v us, e = .returned (.tuple #[v, .nilIface]) ∧ TokRow w' v ((0, ka, A.data.toList, 0) :: us) ∧ (us.length = if B.toList.isEmpty = true then 0 else 1) ∧ Below W.heap.size W w') => (by
            obtain ⟨v, us, rfl, ⟨p, c, rfl, hp1⟩, hlen, hb⟩ := h
            obtain ⟨g, o, rfl, c0, c1, c2, c3⟩ := hp1 0 _ rfl
            have hgl := cell_lt c1
            exact ⟨g, o, c, by rw [List.length_cons, hlen], hb, fun W' hb' => (hb'.cell (p := ⟨g, _, none⟩) hgl).trans c2⟩ :
            ∃ g o c, e = .returned (.tuple #[.slice (some ⟨g, o, none⟩) ((if B.toList.isEmpty = true then 0 else 1) + 1) c, .nilIface]) ∧ Below W.heap.size W w' ∧ ∀ W', Below w'.heap.size w' W' → W'.cell? ⟨g, o + 2, none⟩ = some (.string A))))
          clear TK TK2
          have hBB : B.toList.isEmpty = true ∨ B.toList.isEmpty = false := by cases B.toList.isEmpty <;> simp
          have hkd : (b = true ∧ kd = 3) ∨ (b = false ∧ 65 ≤ a0 ∧ a0 ≤ 90 ∧ kd = 2) ∨ (b = false ∧ ¬ (65 ≤ a0 ∧ a0 ≤ 90) ∧ kd = 1) := by
            cases b
            · by_cases h : 65 ≤ a0 ∧ a0 ≤ 90
              · exact .inr (.inl ⟨rfl, h.1, h.2, (KD1.2 rfl).1 h⟩)
              · exact .inr (.inr ⟨rfl, h, (KD1.2 rfl).2 h⟩)
            · exact .inl ⟨rfl, KD1.1 rfl⟩
          clear KD1
          rcases hkd with ⟨rfl, rfl⟩ | ⟨rfl, k1, k2, rfl⟩ | ⟨rfl, k1, rfl⟩ <;> rcases hr with h1 | ⟨h1, h2⟩ | h1 <;> rcases hBB with hBe | hBe
          all_goals
            try omega
          all_goals
            rw [hBe] at TKb
            simp only [if_true, if_false, Bool.false_eq_true, Nat.zero_add, Nat.reduceAdd] at TKb
            go_wp2_with (first | (go_at_call 9; refine (unhide TKa _).mono ?_; rintro e w2 ⟨g, o, c, rfl, hb2, hc2⟩; obtain ⟨x1, x2, x3⟩ := hc2 w2 (Below.refl _ _); have HC2 := hide hc2; clear hc2 TKa) | (go_at_call 9; refine (unhide TKb _).mono ?_; rintro e w3 ⟨g3, o3, c3, rfl, hb3, hc3⟩; obtain ⟨y1, y2, y3⟩ := unhide HC2 w3 hb3; have z2 := hc3 w3 (Below.refl _ _); clear hc3) | (go_at_call 11; refine (unhide RN _ (step0 (step0 HB1 hb2) hb3)).mono ?_; rintro e wl ⟨rfl, hbl⟩))
            go_ret
            exact ⟨rfl, step0 (step0 (step0 HB1 hb2) hb3) hbl⟩
end Go.Proofs.YtkahhkeohmljaabDoor
