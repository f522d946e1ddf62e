/-
  number and cutNumber of package lex, walked.
-/
import Derived.Test.YtcofioeikpiabaaGreatDoorNames
namespace Go.Proofs.YtcofioeikpiabaaGreatDoor
open Go.RowKit Lx

def numAns (o : Option Int) : Ending := .returned (.tuple #[.int .i64 (o.getD 0), .bool o.isSome])
theorem digit_bd {x : Int} (h : digitB x = true) : 48 ≤ x ∧ x ≤ 57 := by simpa [digitB] using h
theorem hd_at (s : ByteArray) (a : Nat) (h : a < s.size) : hd (s.data.toList.drop a) = (s[a].toNat : Int) := by rw [drop_cons s a h]; rfl
set_option maxHeartbeats 1000000 in
set_option maxRecDepth 100000 in
theorem number_any (s : ByteArray) (w : World) (h0 : 0 < s.size) (hs : s.size ≤ maxLen) (hd0 : ∀ k (h : k < s.size), digitB (s[k].toNat : Int) = true) :
    Calls Tryz.prog 586 #[.string s] w fun e w' => e = numAns (number s.data.toList) ∧ w' = w := by
  unfold maxLen at hs
  have HD := hide hd0
  have hh := hd_at s 0 h0
  rw [List.drop_zero] at hh
  clear hd0
  by_cases hz : (s[0].toNat : Int) = 48 ∧ 1 < s.size
  · obtain ⟨z1, z2⟩ := hz
    have HN : Hid (number s.data.toList = none) := by show _ = _; rw [number, if_pos ⟨by rw [hh, z1], by simpa using z2⟩]
    have z1' : ((s[0].toNat : Int) == 48) = true := by simp [z1]
    clear z1 hh
    go_enter Tryz.func586, Tryz.ntmps586
    go_wp2
    go_ret2
    exact ⟨by rw [unhide HN]; rfl, rfl⟩
  · have HN : Hid (number s.data.toList = numFold s.data.toList 0) := by show _ = _; rw [number, if_neg (by rw [hh]; simpa using hz)]
    have hz' : ((s[0].toNat : Int) == 48) = false ∨ (((s[0].toNat : Int) == 48) = true ∧ s.size ≤ 1) := by
      by_cases h : (s[0].toNat : Int) = 48
      · exact .inr ⟨by simp [h], by omega⟩
      · exact .inl (by simpa using h)
    clear hz hh
    rcases hz' with hA | ⟨hA, hB⟩
    all_goals
      go_enter Tryz.func586, Tryz.ntmps586
      go_wp2
      go_loop [4, 17] (fun n i => ∃ (k : Nat) (v : Int), k ≤ s.size ∧ i = .int .i64 k ∧ n = .int .i64 v ∧ 0 ≤ v ∧ v ≤ 9223372036854775807 ∧ Hid (numFold s.data.toList 0 = numFold (s.data.toList.drop k) v)) (fun _ i => s.size - (intOf i).toNat)
      case atStart => exact ⟨0, 0, by omega, rfl, rfl, by omega, by omega, rfl⟩
      case round =>
        obtain ⟨k, v, hk, rfl, rfl, hv0, hv1, HK⟩ := hrel
        by_cases hlt : k < s.size
        · have hdg := digit_bd (unhide HD k hlt)
          have HS := hide (drop_cons s k hlt)
          by_cases ho : (9223372036854775807 - ((s[k].toNat : Int) - 48)) / 10 < v
          · have HF : Hid (number s.data.toList = none) := by
              have e1 := unhide HN
              have e2 := unhide HK
              rw [unhide HS, numFold, if_pos ho] at e2
              show _ = _
              rw [e1, e2]
            go_wp2
            go_ret2
            exact ⟨by rw [unhide HF]; rfl, rfl⟩
          · have HF : Hid (numFold s.data.toList 0 = numFold (s.data.toList.drop (k + 1)) (v * 10 + ((s[k].toNat : Int) - 48))) := by
              have e2 := unhide HK
              rw [unhide HS, numFold, if_neg ho] at e2
              exact e2
            have ho' : v * 10 + ((s[k].toNat : Int) - 48) ≤ 9223372036854775807 := by omega
            go_wp2
            go_round
            case rel => exact ⟨k + 1, v * 10 + ((s[k].toNat : Int) - 48), by omega, by go_num, rfl, by omega, ho', unhide HF⟩
            case measure => simp [intOf]; omega
        · have HF : Hid (number s.data.toList = some v) := by
            have e1 := unhide HN
            have e2 := unhide HK
            rw [List.drop_of_length_le (by simp; omega)] at e2
            show _ = _
            rw [e1, e2]; rfl
          go_wp2
          go_ret2
          exact ⟨by rw [unhide HF]; rfl, rfl⟩

theorem runLen_all (p : Int → Bool) : ∀ (l : Bs) (k : Nat), k < runLen p l → ∃ h : k < l.length, p ((l[k]).toNat : Int) = true
  | [], k, h => by simp [runLen] at h
  | c :: r, k, h => by
    by_cases hc : p (c.toNat : Int) = true
    · rw [runLen_yes p c r hc] at h
      rcases k with _ | k
      · exact ⟨by simp, by simpa using hc⟩
      · obtain ⟨h1, h2⟩ := runLen_all p r k (by omega)
        exact ⟨by simp; omega, by simpa using h2⟩
    · rw [runLen_no p c r ((Bool.not_eq_true _).mp hc)] at h; omega
theorem run_digits (s : ByteArray) (a n : Nat) (h1 : a < s.size) (h0 : digitB (s[a].toNat : Int) = true) (hn : n = digLen (s.data.toList.drop a)) (hz : a + n ≤ s.size) :
    ∀ k (h : k < (s.extract a (a + n)).size), digitB (((s.extract a (a + n))[k]).toNat : Int) = true := by
  intro k h
  have hk : k < n := by simp at h; omega
  have e : (s.extract a (a + n))[k] = s[a + k]'(by omega) := by
    simp [ByteArray.getElem_extract]
  rw [e]
  rcases k with _ | k
  · simpa using h0
  · have hr : k < runLen digitB (s.data.toList.drop (a + 1)) := by
      rw [digLen, tail_drop] at hn; omega
    obtain ⟨hl, this⟩ := runLen_all digitB _ k hr
    rw [List.getElem_drop] at this
    have e2 : s.data.toList[a + 1 + k]'(by simp; omega) = s[a + (k + 1)]'(by omega) := by
      rw [Array.getElem_toList]
      have h' : a + 1 + k = a + (k + 1) := by omega
      simp only [h']; rfl
    rw [e2] at this
    exact this

theorem cutNumber_no1 {l : Bs} (h : number (l.take (digLen l)) = none) : cutNumber l = .inl (0, 11) := by rw [cutNumber, h]
theorem cutNumber_no2 {l : Bs} {v : Int} (h : number (l.take (digLen l)) = some v) (h1 : l.drop (digLen l) ≠ []) (h2 : nameB (hd (l.drop (digLen l))) = true) : cutNumber l = .inl (0, 11) := by
  rw [cutNumber, h]; exact if_pos ⟨h1, h2⟩
theorem cutNumber_yes {l : Bs} {v : Int} (h : number (l.take (digLen l)) = some v) (h1 : l.drop (digLen l) = [] ∨ nameB (hd (l.drop (digLen l))) = false) : cutNumber l = .inr (4, [], v, digLen l) := by
  rw [cutNumber, h]; exact if_neg (by rintro ⟨a, b⟩; rcases h1 with h1 | h1 <;> simp_all)
set_option maxHeartbeats 1000000 in
set_option maxRecDepth 100000 in
theorem cutNumber_any (s : ByteArray) (a : Nat) (w : World) (h1 : a < s.size) (hs : s.size ≤ 281474976710656) (hdg : digitB (s[a].toNat : Int) = true) :
    Calls Tryz.prog 535 #[.string s, .int .i64 a] w fun e w' => CutSays w a (cutNumber (s.data.toList.drop a)) e w' := by
  have HD := hide hdg
  clear hdg
  go_enter Tryz.func535, Tryz.ntmps535
  go_wp2
  go_loop [7] (fun i => ∃ k : Nat, a + 1 ≤ k ∧ k ≤ s.size ∧ i = .int .i64 k ∧ Hid (digLen (s.data.toList.drop a) = (k - a) + runLen digitB (s.data.toList.drop k))) (fun i => s.size - (intOf i).toNat)
  case atStart => exact ⟨a + 1, by omega, by omega, by go_num, by show _ = _; rw [digLen, tail_drop]; omega⟩
  case round =>
    obtain ⟨k, hk1, hk2, rfl, HK⟩ := hrel
    by_cases hc : ∃ h : k < s.size, digitB (s[k].toNat : Int) = true
    · obtain ⟨hlt, hn⟩ := hc
      have HR := hide (runLen_at digitB s k hlt hn)
      go_wp2_with (first | (go_at_call 533; refine (isDigit_any _ _).mono ?_; rintro e w' ⟨rfl, rfl⟩))
      go_round
      case rel => exact ⟨k + 1, by omega, by omega, by go_num, by have e1 := unhide HK; have e2 := unhide HR; show _ = _; omega⟩
      case measure => simp [intOf]; omega
    · have hstop : runLen digitB (s.data.toList.drop k) = 0 := by
        by_cases hlt : k < s.size
        · exact runLen_stop digitB s k hlt ((Bool.not_eq_true _).mp fun h => hc ⟨hlt, h⟩)
        · exact runLen_end digitB s k (by omega)
      have hdl : digLen (s.data.toList.drop a) = k - a := by have e1 := unhide HK; omega
      have hak : a ≤ k := by omega
      have hex : s.extract a k = ⟨((s.data.toList.drop a).take (digLen (s.data.toList.drop a))).toArray⟩ := by
        have := extract_take s a (k - a); rw [hdl]; rwa [show a + (k - a) = k from by omega] at this
      have NB : Hid (∀ w, Calls Tryz.prog 586 #[.string (s.extract a k)] w fun e w' => e = numAns (number ((s.data.toList.drop a).take (digLen (s.data.toList.drop a)))) ∧ w' = w) := by
        intro w
        have := number_any (s.extract a k) w (by simp; omega) (by unfold maxLen; simp; omega) (by
          have := run_digits s a (k - a) h1 (unhide HD) hdl.symm (by omega)
          rw [show a + (k - a) = k from by omega] at this
          exact this)
        rw [hex] at this ⊢
        simpa using this
      have hdr : (s.data.toList.drop a).drop (digLen (s.data.toList.drop a)) = s.data.toList.drop k := by
        rw [hdl, List.drop_drop]; congr 1; omega
      have HL := hide hdl
      rcases hnum : number ((s.data.toList.drop a).take (digLen (s.data.toList.drop a))) with _ | v
      · have NB : Hid (∀ w, Calls Tryz.prog 586 #[.string (s.extract a k)] w fun e w' => e = .returned (.tuple #[.int .i64 0, .bool false]) ∧ w' = w) := by
          intro w; have := unhide NB w; rw [hnum] at this; exact this
        have HC := hide (cutNumber_no1 hnum)
        clear hnum hdr hex hdl hstop HK
        by_cases hlt : k < s.size
        · have hn : digitB (s[k].toNat : Int) = false := (Bool.not_eq_true _).mp fun h => hc ⟨hlt, h⟩
          clear hc
          go_wp2_with (first | (go_at_call 533; refine (isDigit_any _ _).mono ?_; rintro e w' ⟨rfl, rfl⟩) | (go_at_call 586; go_fit (unhide NB _); rintro e w' ⟨rfl, rfl⟩) | (go_at_call 376; refine (refuse_any _ _ _).mono ?_; rintro e w' ⟨rfl, rfl⟩))
          exact bodyPost_ret (v := .tuple #[.agg #[.int .i64 0, .int .i64 0, .string ⟨#[]⟩, .int .i64 0], .int .i64 0, .pointer (some ⟨w.heap.size + 1, 0, none⟩)]) (by simp [results, Tryz.results535, go_sem]) rfl (says_no (unhide HC) (below2 _ _ _) (by omega) (heap_last2 _ _ _))
        · clear hc
          go_wp2_with (first | (go_at_call 586; go_fit (unhide NB _); rintro e w' ⟨rfl, rfl⟩) | (go_at_call 376; refine (refuse_any _ _ _).mono ?_; rintro e w' ⟨rfl, rfl⟩))
          exact bodyPost_ret (v := .tuple #[.agg #[.int .i64 0, .int .i64 0, .string ⟨#[]⟩, .int .i64 0], .int .i64 0, .pointer (some ⟨w.heap.size + 1, 0, none⟩)]) (by simp [results, Tryz.results535, go_sem]) rfl (says_no (unhide HC) (below2 _ _ _) (by omega) (heap_last2 _ _ _))
      · have NB : Hid (∀ w, Calls Tryz.prog 586 #[.string (s.extract a k)] w fun e w' => e = .returned (.tuple #[.int .i64 v, .bool true]) ∧ w' = w) := by
          intro w; have := unhide NB w; rw [hnum] at this; exact this
        by_cases hlt : k < s.size
        · have hn : digitB (s[k].toNat : Int) = false := (Bool.not_eq_true _).mp fun h => hc ⟨hlt, h⟩
          by_cases hnm : nameB (s[k].toNat : Int) = true
          · have HC := hide (cutNumber_no2 hnum (by rw [hdr, drop_cons s k hlt]; simp) (by rw [hdr, hd_at s k hlt]; exact hnm))
            clear hnum hdr hex hdl hstop HK hc
            go_wp2_with (first | (go_at_call 533; refine (isDigit_any _ _).mono ?_; rintro e w' ⟨rfl, rfl⟩) | (go_at_call 586; go_fit (unhide NB _); rintro e w' ⟨rfl, rfl⟩) | (go_at_call 376; refine (refuse_any _ _ _).mono ?_; rintro e w' ⟨rfl, rfl⟩) | (go_at_call 587; refine (inName_any _ _).mono ?_; rintro e w' ⟨rfl, rfl⟩))
            exact bodyPost_ret (v := .tuple #[.agg #[.int .i64 0, .int .i64 0, .string ⟨#[]⟩, .int .i64 0], .int .i64 0, .pointer (some ⟨w.heap.size + 1, 0, none⟩)]) (by simp [results, Tryz.results535, go_sem]) rfl (says_no (unhide HC) (below2 _ _ _) (by omega) (heap_last2 _ _ _))
          · have hnm : nameB (s[k].toNat : Int) = false := (Bool.not_eq_true _).mp hnm
            have HC := hide (cutNumber_yes hnum (.inr (by rw [hdr, hd_at s k hlt]; exact hnm)))
            clear hnum hdr hex hdl hstop HK hc
            go_wp2_with (first | (go_at_call 533; refine (isDigit_any _ _).mono ?_; rintro e w' ⟨rfl, rfl⟩) | (go_at_call 586; go_fit (unhide NB _); rintro e w' ⟨rfl, rfl⟩) | (go_at_call 587; refine (inName_any _ _).mono ?_; rintro e w' ⟨rfl, rfl⟩))
            exact bodyPost_ret (v := .tuple #[.agg #[.int .i64 a, .int .i64 4, .string ⟨#[]⟩, .int .i64 v], .int .i64 k, .pointer none]) (by simp [results, Tryz.results535, go_sem]) rfl (says_tok (unhide HC) ((Below.refl _ _).alloc (Nat.le_refl _) _) rfl (by have := unhide HL; omega))
        · have HC := hide (cutNumber_yes hnum (.inl (by rw [hdr]; exact List.drop_of_length_le (by simp; omega))))
          clear hnum hdr hex hdl hstop HK hc
          go_wp2_with (first | (go_at_call 586; go_fit (unhide NB _); rintro e w' ⟨rfl, rfl⟩))
          exact bodyPost_ret (v := .tuple #[.agg #[.int .i64 a, .int .i64 4, .string ⟨#[]⟩, .int .i64 v], .int .i64 k, .pointer none]) (by simp [results, Tryz.results535, go_sem]) rfl (says_tok (unhide HC) ((Below.refl _ _).alloc (Nat.le_refl _) _) rfl (by have := unhide HL; omega))
end Go.Proofs.YtcofioeikpiabaaGreatDoor
