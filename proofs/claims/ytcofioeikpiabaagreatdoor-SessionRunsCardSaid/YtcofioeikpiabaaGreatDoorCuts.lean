/-
  refuse, Words, nameKind, written and cutSign of package lex, walked.
-/
import Derived.Test.YtcofioeikpiabaaGreatDoorSkip
import Derived.Deep.DeepFit
namespace Go.Proofs.YtcofioeikpiabaaGreatDoor
open Go.RowKit Lx

theorem refuse_any (a y : Int) (w : World) : Calls Tryz.prog 376 #[.int .i64 a, .int .i64 y] w fun e w' => e = .returned (.pointer (some ⟨w.heap.size, 0, none⟩)) ∧ w' = w.alloc (.cells #[.int .i64 a, .int .i64 y] 654) := by
  go_enter Tryz.func376, Tryz.ntmps376
  go_wp2
  go_ret
  exact ⟨rfl, rfl⟩

def wordCells : Array Value := (words.map fun s => Value.string ⟨s.toArray⟩).toArray
theorem Words_any (w : World) : Calls Tryz.prog 621 #[] w fun e w' => e = .returned (.slice (some ⟨w.heap.size, 0, none⟩) 25 25) ∧ w' = w.alloc (.cells wordCells 9) := by
  go_enter Tryz.func621, Tryz.ntmps621
  go_wp2
  go_ret
  exact ⟨rfl, rfl⟩

def wordStrs : List ByteArray := words.map fun s => ⟨s.toArray⟩
theorem word_cell (w : World) : ∀ j, j < wordStrs.length → (w.alloc (.cells wordCells 9)).cell? ⟨w.heap.size, 0 + j, none⟩ = some (.string (wordStrs.getD j ByteArray.empty)) := by
  intro j hj
  rw [World.cell?_alloc_at _ _ _ _ (by rfl)]
  have hj' : j < words.length := by simpa [wordStrs] using hj
  have e : wordCells[j]? = some (.string (wordStrs.getD j ByteArray.empty)) := by
    simp only [wordCells, wordStrs, List.getElem?_toArray, List.getElem?_map, List.getD_eq_getElem?_getD, List.getElem?_eq_getElem hj', Option.map_some, Option.getD_some]
  simpa using e
theorem contains_word (x : ByteArray) : Lib.containsS (wordStrs.take 25) x = words.contains x.data.toList := by
  rw [Bool.eq_iff_iff, Lib.containsS_iff]
  have e : wordStrs.take 25 = wordStrs := by rfl
  rw [e]
  simp only [wordStrs, List.mem_map, List.contains_iff_mem]
  constructor
  · rintro ⟨s, hs, rfl⟩; simpa using hs
  · intro h; exact ⟨_, h, by cases x; simp⟩
theorem nameKind_any (s : ByteArray) (w : World) (h0 : 0 < s.size) (_hs : s.size ≤ maxLen) :
    Calls Tryz.prog 590 #[.string s] w fun e w' => e = .returned (.int .i64 (kindOf s.data.toList)) ∧ Below w.heap.size w w' := by
  unfold maxLen at _hs
  have hh : hd s.data.toList = ((s[0]'h0).toNat : Int) := by
    have := drop_cons s 0 h0; simp at this; rw [hd, this]; rfl
  by_cases hg : greatB ((s[0]'h0).toNat : Int) = true
  · have HK : Hid (kindOf s.data.toList = 2) := by show _ = _; rw [kindOf, hh, if_pos hg]
    clear hh
    go_enter Tryz.func590, Tryz.ntmps590
    go_wp2_with (go_at_call 532; refine (isGreat_any _ _).mono ?_; rintro e w' ⟨rfl, rfl⟩)
    go_ret
    exact ⟨ret_int (unhide HK).symm, Below.refl _ _⟩
  · have hg : greatB ((s[0]'h0).toNat : Int) = false := (Bool.not_eq_true _).mp hg
    have hc := contains_word s
    by_cases hw : words.contains s.data.toList = true
    · have HK : Hid (kindOf s.data.toList = 3) := by show _ = _; rw [kindOf, hh, hg, hw]; rfl
      rw [hw] at hc
      have HC := hide hc
      clear hh hw hc
      go_enter Tryz.func590, Tryz.ntmps590
      go_wp2_with (first | (go_at_call 532; refine (isGreat_any _ _).mono ?_; rintro e w' ⟨rfl, rfl⟩) | (go_at_call 621; refine (Words_any _).mono ?_; rintro e w' ⟨rfl, rfl⟩) | (go_at_call 281; refine (Tryz.slices_Contains_string _ 0 25 25 wordStrs _ _ (by decide) (by decide) (word_cell _)).mono ?_; rintro e w' ⟨rfl, rfl⟩; rw [unhide HC]))
      go_ret
      exact ⟨ret_int (unhide HK).symm, (Below.refl _ _).alloc (Nat.le_refl _) _⟩
    · have hw : words.contains s.data.toList = false := (Bool.not_eq_true _).mp hw
      have HK : Hid (kindOf s.data.toList = 1) := by show _ = _; rw [kindOf, hh, hg, hw]; rfl
      rw [hw] at hc
      have HC := hide hc
      clear hh hw hc
      go_enter Tryz.func590, Tryz.ntmps590
      go_wp2_with (first | (go_at_call 532; refine (isGreat_any _ _).mono ?_; rintro e w' ⟨rfl, rfl⟩) | (go_at_call 621; refine (Words_any _).mono ?_; rintro e w' ⟨rfl, rfl⟩) | (go_at_call 281; refine (Tryz.slices_Contains_string _ 0 25 25 wordStrs _ _ (by decide) (by decide) (word_cell _)).mono ?_; rintro e w' ⟨rfl, rfl⟩; rw [unhide HC]))
      go_ret
      exact ⟨ret_int (unhide HK).symm, (Below.refl _ _).alloc (Nat.le_refl _) _⟩

theorem Clone_any (s : ByteArray) (w : World) (hs : s.size ≤ 281474976710656) : Calls Tryz.prog 579 #[.string s] w fun e w' => e = .returned (.string s) ∧ Below w.heap.size w w' := by
  go_enter Tryz.func579, Tryz.ntmps579
  go_wp2_with (go_at_call 452; refine (Tryz.stringslite_Clone _ _ hs).mono ?_; rintro e w' ⟨rfl, hb⟩)
  go_ret
  exact ⟨rfl, hb⟩

theorem bcell {W w1 : World} (hb : Below W.heap.size W w1) : (∀ b o, b < W.heap.size → w1.cell? ⟨b, o, none⟩ = W.cell? ⟨b, o, none⟩) ∧ (∀ b o, b < W.heap.size → w1.frozen? ⟨b, o, none⟩ = W.frozen? ⟨b, o, none⟩) :=
  ⟨fun b o h => hb.cell (p := ⟨b, o, none⟩) h, fun b o h => hb.frozen (p := ⟨b, o, none⟩) h⟩
theorem below4 {B : Nat} {w w1 : World} (h : Below B w w1) {b : Nat} (hb : B ≤ b) (v0 v1 v2 v3 : Value) :
    Below B w ((((w1.setCell ⟨b, 0, none⟩ v0).setCell ⟨b, 1, none⟩ v1).setCell ⟨b, 2, none⟩ v2).setCell ⟨b, 3, none⟩ v3) :=
  (((h.setCell (p := ⟨b, 0, none⟩) hb v0).setCell (p := ⟨b, 1, none⟩) hb v1).setCell (p := ⟨b, 2, none⟩) hb v2).setCell (p := ⟨b, 3, none⟩) hb v3
theorem written_any (k : Int) (s : ByteArray) (a z : Nat) (w : World) (h1 : a ≤ z) (h2 : z ≤ s.size) (hs : s.size ≤ 281474976710656) :
    Calls Tryz.prog 589 #[.int .i64 k, .string s, .int .i64 a, .int .i64 z] w fun e w' => e = .returned (.agg #[.int .i64 a, .int .i64 k, .string (s.extract a z), .int .i64 0]) ∧ Below w.heap.size w w' := by
  have hz : (s.extract a z).size ≤ 281474976710656 := by simp; omega
  go_enter Tryz.func589, Tryz.ntmps589
  go_wp2_with (go_at_call 579; refine (Clone_any _ _ hz).mono ?_; rintro e w1 ⟨rfl, hb⟩; obtain ⟨hc, hf⟩ := bcell hb)
  exact bodyPost_ret (v := .agg #[.int .i64 a, .int .i64 k, .string (s.extract a z), .int .i64 0]) (by simp [results, Tryz.results589, go_sem, hc]) rfl ⟨rfl, below4 (((Below.refl _ _).alloc (Nat.le_refl _) _).trans (hb.mono (by simp))) (Nat.le_refl _) _ _ _ _⟩

/-- What a function that cuts says of what it was given at a: a refusal in a new block, or a token. -/
def CutSays (w : World) (a : Nat) (c : Cut) (e : Ending) (w' : World) : Prop :=
  Below w.heap.size w w' ∧
  match c with
  | .inl (o, y) => ∃ b, e = .returned (.tuple #[.agg #[.int .i64 0, .int .i64 0, .string ⟨#[]⟩, .int .i64 0], .int .i64 0, .pointer (some ⟨b, 0, none⟩)]) ∧ w.heap.size ≤ b ∧ w'.heap[b]? = some (.cells #[.int .i64 ((a + o : Nat) : Int), .int .i64 (y : Int)] 654)
  | .inr (k, s, v, n) => e = .returned (.tuple #[.agg #[.int .i64 a, .int .i64 k, .string ⟨s.toArray⟩, .int .i64 v], .int .i64 ((a + n : Nat) : Int), .pointer none])
theorem extract_take (s : ByteArray) (a n : Nat) : (s.extract a (a + n)) = ⟨((s.data.toList.drop a).take n).toArray⟩ := by
  apply ByteArray.ext
  apply Array.ext'
  simp [ByteArray.data_extract, Nat.add_sub_cancel_left]
theorem says_tok {w w' : World} {a : Nat} {c : Cut} {k : Int} {s : Bs} {v : Int} {n : Nat} {S : ByteArray} {z : Int} (hc : c = .inr (k, s, v, n)) (hb : Below w.heap.size w w') (hS : S = ⟨s.toArray⟩) (hz : z = ((a + n : Nat) : Int)) :
    CutSays w a c (.returned (.tuple #[.agg #[.int .i64 a, .int .i64 k, .string S, .int .i64 v], .int .i64 z, .pointer none])) w' := by
  subst hc hS hz; exact ⟨hb, rfl⟩
theorem says_no {w w' : World} {a : Nat} {c : Cut} {o y : Nat} {b : Nat} (hc : c = .inl (o, y)) (hb : Below w.heap.size w w') (h1 : w.heap.size ≤ b) (h2 : w'.heap[b]? = some (.cells #[.int .i64 ((a + o : Nat) : Int), .int .i64 (y : Int)] 654)) :
    CutSays w a c (.returned (.tuple #[.agg #[.int .i64 0, .int .i64 0, .string ⟨#[]⟩, .int .i64 0], .int .i64 0, .pointer (some ⟨b, 0, none⟩)])) w' := by
  subst hc; exact ⟨hb, b, rfl, h1, h2⟩
theorem cutSign_any (s : ByteArray) (a : Nat) (w : World) (h1 : a < s.size) (hs : s.size ≤ 281474976710656) :
    Calls Tryz.prog 537 #[.string s, .int .i64 a] w fun e w' => CutSays w a (cutSign (s.data.toList.drop a)) e w' := by
  by_cases hp : [61, 61].isPrefixOf (s.data.toList.drop a) = true
  · have hl : a + 2 ≤ s.size := by
      rcases Nat.lt_or_ge (a + 1) s.size with h | h
      · omega
      · rw [drop_cons s a h1, List.drop_of_length_le (by simp; omega)] at hp
        simp [List.isPrefixOf] at hp
    have HC : Hid (cutSign (s.data.toList.drop a) = .inr (6, (s.data.toList.drop a).take 2, 0, 2)) := by show _ = _; rw [cutSign, if_pos hp]
    have WR : Hid (∀ w, _) := fun w => written_any 6 s a (a + 2) w (by omega) hl hs
    go_enter Tryz.func537, Tryz.ntmps537
    go_wp2_with (first | (go_at_call 462; refine (pre_two _ _ _ _).mono ?_; rintro e w' ⟨rfl, rfl⟩) | (go_at_call 589; go_fit (unhide WR _); rintro e w1 ⟨rfl, hb⟩; obtain ⟨hc, hf⟩ := bcell hb))
    exact bodyPost_ret (v := .tuple #[.agg #[.int .i64 a, .int .i64 6, .string (s.extract a (a + 2)), .int .i64 0], .int .i64 (a + 1 + 1), .pointer none]) (by simp [results, Tryz.results537, go_sem, hc]) rfl
      (says_tok (unhide HC) (below4 (((Below.refl _ _).alloc (Nat.le_refl _) _).trans (hb.mono (by simp))) (Nat.le_refl _) _ _ _ _) (extract_take _ _ _) (by omega))
  · have hp : [61, 61].isPrefixOf (s.data.toList.drop a) = false := (Bool.not_eq_true _).mp hp
    have HC : Hid (cutSign (s.data.toList.drop a) = .inr (6, (s.data.toList.drop a).take 1, 0, 1)) := by show _ = _; rw [cutSign, hp]; rfl
    have WR : Hid (∀ w, _) := fun w => written_any 6 s a (a + 1) w (by omega) h1 hs
    go_enter Tryz.func537, Tryz.ntmps537
    go_wp2_with (first | (go_at_call 462; refine (pre_two _ _ _ _).mono ?_; rintro e w' ⟨rfl, rfl⟩) | (go_at_call 589; go_fit (unhide WR _); rintro e w1 ⟨rfl, hb⟩; obtain ⟨hc, hf⟩ := bcell hb))
    exact bodyPost_ret (v := .tuple #[.agg #[.int .i64 a, .int .i64 6, .string (s.extract a (a + 1)), .int .i64 0], .int .i64 (a + 1), .pointer none]) (by simp [results, Tryz.results537, go_sem, hc]) rfl
      (says_tok (unhide HC) (below4 (((Below.refl _ _).alloc (Nat.le_refl _) _).trans (hb.mono (by simp))) (Nat.le_refl _) _ _ _ _) (extract_take _ _ _) (by omega))
end Go.Proofs.YtcofioeikpiabaaGreatDoor
