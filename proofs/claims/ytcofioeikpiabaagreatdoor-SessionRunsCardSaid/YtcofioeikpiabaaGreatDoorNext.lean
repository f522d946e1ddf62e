/-
  cut and next of package lex, walked.
-/
import Derived.Test.YtcofioeikpiabaaGreatDoorTexts
namespace Go.Proofs.YtcofioeikpiabaaGreatDoor
open Go.RowKit Lx

theorem heap4 (wr : World) (b : Nat) (v0 v1 v2 v3 : Value) (g : Nat) (h : g ≠ b) : ((((wr.setCell ⟨b, 0, none⟩ v0).setCell ⟨b, 1, none⟩ v1).setCell ⟨b, 2, none⟩ v2).setCell ⟨b, 3, none⟩ v3).heap[g]? = wr.heap[g]? := by
  rw [Below.heap_setCell _ _ _ _ h, Below.heap_setCell _ _ _ _ h, Below.heap_setCell _ _ _ _ h, Below.heap_setCell _ _ _ _ h]
theorem byte_bd (c : UInt8) : 0 ≤ (c.toNat : Int) ∧ (c.toNat : Int) < 256 := ⟨by omega, by have := c.toNat_lt; omega⟩

set_option maxHeartbeats 2000000 in
set_option maxRecDepth 100000 in
theorem cut_any (s : ByteArray) (a : Nat) (w : World) (h1 : a < s.size) (hs : s.size ≤ 140737488355328) :
    Calls Tryz.prog 465 #[.string s, .int .i64 a] w fun e w' => CutSays w a (cut (s.data.toList.drop a)) e w' := by
  have hh := hd_at s a h1
  obtain ⟨hx0, hx1⟩ := byte_bd s[a]
  by_cases hdg : digitB (s[a].toNat : Int) = true
  · have hC : cut (s.data.toList.drop a) = cutNumber (s.data.toList.drop a) := by rw [cut, hh, if_pos hdg]
    have HX : Hid (∀ W, Calls Tryz.prog 535 #[.string s, .int .i64 a] W fun e w' => CutSays W a (cutNumber (s.data.toList.drop a)) e w') := fun W => cutNumber_any s a W h1 (by omega) hdg
    rcases hcut : cutNumber (s.data.toList.drop a) with ⟨o, y⟩ | ⟨k, S, v, n⟩
    · have HC := hide (hC.trans hcut)
      have HY : Hid (∀ W, Calls Tryz.prog 535 #[.string s, .int .i64 a] W fun e w' => CutSays W a (.inl (o, y)) e w') := by rw [← hcut]; exact HX
      clear HX hcut hC hh hx0 hx1
      go_enter Tryz.func465, Tryz.ntmps465
      go_wp2_with (first | (go_at_call 533; refine (isDigit_any _ _).mono ?_; rintro e w' ⟨rfl, rfl⟩) | (go_at_call 535; go_fit (unhide HY _); rintro e w1 ⟨hb, b, rfl, hge, hblk⟩; obtain ⟨hc', hf'⟩ := bcell hb))
      exact bodyPost_ret (v := .tuple #[.agg #[.int .i64 0, .int .i64 0, .string ⟨#[]⟩, .int .i64 0], .int .i64 0, .pointer (some ⟨b, 0, none⟩)]) (by simp [results, Tryz.results465, go_sem, hc']) rfl (says_no (unhide HC) (below4 (((Below.refl _ _).alloc (Nat.le_refl _) _).trans (hb.mono (by simp))) (Nat.le_refl _) _ _ _ _) (by simp at hge; omega) (by rw [heap4 _ _ _ _ _ _ _ (by simp at hge; omega)]; exact hblk))
    · have HC := hide (hC.trans hcut)
      have HY : Hid (∀ W, Calls Tryz.prog 535 #[.string s, .int .i64 a] W fun e w' => CutSays W a (.inr (k, S, v, n)) e w') := by rw [← hcut]; exact HX
      clear HX hcut hC hh hx0 hx1
      go_enter Tryz.func465, Tryz.ntmps465
      go_wp2_with (first | (go_at_call 533; refine (isDigit_any _ _).mono ?_; rintro e w' ⟨rfl, rfl⟩) | (go_at_call 535; go_fit (unhide HY _); rintro e w1 ⟨hb, rfl⟩; obtain ⟨hc', hf'⟩ := bcell hb))
      exact bodyPost_ret (v := .tuple #[.agg #[.int .i64 a, .int .i64 k, .string ⟨S.toArray⟩, .int .i64 v], .int .i64 ((a + n : Nat) : Int), .pointer none]) (by simp [results, Tryz.results465, go_sem, hc']) rfl (says_tok (unhide HC) (below4 (((Below.refl _ _).alloc (Nat.le_refl _) _).trans (hb.mono (by simp))) (Nat.le_refl _) _ _ _ _) rfl rfl)
  · have hdg : digitB (s[a].toNat : Int) = false := (Bool.not_eq_true _).mp hdg
    by_cases h34 : (s[a].toNat : Int) = 34
    · have hC : cut (s.data.toList.drop a) = cutText (s.data.toList.drop a) := by rw [cut, hh, hdg, if_neg (by decide), if_pos h34]
      have hq : ((s[a].toNat : Int) == 34) = true := by simp [h34]
      have HX : Hid (∀ W, Calls Tryz.prog 536 #[.string s, .int .i64 a] W fun e w' => CutSays W a (cutText (s.data.toList.drop a)) e w') := fun W => cutText_any s a W h1 hs
      rcases hcut : cutText (s.data.toList.drop a) with ⟨o, y⟩ | ⟨k, S, v, n⟩
      · have HC := hide (hC.trans hcut)
        have HY : Hid (∀ W, Calls Tryz.prog 536 #[.string s, .int .i64 a] W fun e w' => CutSays W a (.inl (o, y)) e w') := by rw [← hcut]; exact HX
        clear HX hcut hC hh hx0 hx1 h34
        go_enter Tryz.func465, Tryz.ntmps465
        go_wp2_with (first | (go_at_call 533; refine (isDigit_any _ _).mono ?_; rintro e w' ⟨rfl, rfl⟩) | (go_at_call 536; go_fit (unhide HY _); rintro e w1 ⟨hb, b, rfl, hge, hblk⟩; obtain ⟨hc', hf'⟩ := bcell hb))
        exact bodyPost_ret (v := .tuple #[.agg #[.int .i64 0, .int .i64 0, .string ⟨#[]⟩, .int .i64 0], .int .i64 0, .pointer (some ⟨b, 0, none⟩)]) (by simp [results, Tryz.results465, go_sem, hc']) rfl (says_no (unhide HC) (below4 (((Below.refl _ _).alloc (Nat.le_refl _) _).trans (hb.mono (by simp))) (Nat.le_refl _) _ _ _ _) (by simp at hge; omega) (by rw [heap4 _ _ _ _ _ _ _ (by simp at hge; omega)]; exact hblk))
      · have HC := hide (hC.trans hcut)
        have HY : Hid (∀ W, Calls Tryz.prog 536 #[.string s, .int .i64 a] W fun e w' => CutSays W a (.inr (k, S, v, n)) e w') := by rw [← hcut]; exact HX
        clear HX hcut hC hh hx0 hx1 h34
        go_enter Tryz.func465, Tryz.ntmps465
        go_wp2_with (first | (go_at_call 533; refine (isDigit_any _ _).mono ?_; rintro e w' ⟨rfl, rfl⟩) | (go_at_call 536; go_fit (unhide HY _); rintro e w1 ⟨hb, rfl⟩; obtain ⟨hc', hf'⟩ := bcell hb))
        exact bodyPost_ret (v := .tuple #[.agg #[.int .i64 a, .int .i64 k, .string ⟨S.toArray⟩, .int .i64 v], .int .i64 ((a + n : Nat) : Int), .pointer none]) (by simp [results, Tryz.results465, go_sem, hc']) rfl (says_tok (unhide HC) (below4 (((Below.refl _ _).alloc (Nat.le_refl _) _).trans (hb.mono (by simp))) (Nat.le_refl _) _ _ _ _) rfl rfl)
    · have hq : ((s[a].toNat : Int) == 34) = false := by simpa using h34
      by_cases hsg : signB (s[a].toNat : Int) = true
      · have hC : cut (s.data.toList.drop a) = cutSign (s.data.toList.drop a) := by rw [cut, hh, hdg, if_neg (by decide), if_neg h34, if_pos hsg]
        have HX : Hid (∀ W, Calls Tryz.prog 537 #[.string s, .int .i64 a] W fun e w' => CutSays W a (cutSign (s.data.toList.drop a)) e w') := fun W => cutSign_any s a W h1 (by omega)
        rcases hcut : cutSign (s.data.toList.drop a) with ⟨o, y⟩ | ⟨k, S, v, n⟩
        · have HC := hide (hC.trans hcut)
          have HY : Hid (∀ W, Calls Tryz.prog 537 #[.string s, .int .i64 a] W fun e w' => CutSays W a (.inl (o, y)) e w') := by rw [← hcut]; exact HX
          clear HX hcut hC hh h34
          go_enter Tryz.func465, Tryz.ntmps465
          go_wp2_with (first | (go_at_call 533; refine (isDigit_any _ _).mono ?_; rintro e w' ⟨rfl, rfl⟩) | (go_at_call 534; refine (isSign_any _ _ hx0 hx1).mono ?_; rintro e w' ⟨rfl, rfl⟩) | (go_at_call 537; go_fit (unhide HY _); rintro e w1 ⟨hb, b, rfl, hge, hblk⟩; obtain ⟨hc', hf'⟩ := bcell hb))
          exact bodyPost_ret (v := .tuple #[.agg #[.int .i64 0, .int .i64 0, .string ⟨#[]⟩, .int .i64 0], .int .i64 0, .pointer (some ⟨b, 0, none⟩)]) (by simp [results, Tryz.results465, go_sem, hc']) rfl (says_no (unhide HC) (below4 (((Below.refl _ _).alloc (Nat.le_refl _) _).trans (hb.mono (by simp))) (Nat.le_refl _) _ _ _ _) (by simp at hge; omega) (by rw [heap4 _ _ _ _ _ _ _ (by simp at hge; omega)]; exact hblk))
        · have HC := hide (hC.trans hcut)
          have HY : Hid (∀ W, Calls Tryz.prog 537 #[.string s, .int .i64 a] W fun e w' => CutSays W a (.inr (k, S, v, n)) e w') := by rw [← hcut]; exact HX
          clear HX hcut hC hh h34
          go_enter Tryz.func465, Tryz.ntmps465
          go_wp2_with (first | (go_at_call 533; refine (isDigit_any _ _).mono ?_; rintro e w' ⟨rfl, rfl⟩) | (go_at_call 534; refine (isSign_any _ _ hx0 hx1).mono ?_; rintro e w' ⟨rfl, rfl⟩) | (go_at_call 537; go_fit (unhide HY _); rintro e w1 ⟨hb, rfl⟩; obtain ⟨hc', hf'⟩ := bcell hb))
          exact bodyPost_ret (v := .tuple #[.agg #[.int .i64 a, .int .i64 k, .string ⟨S.toArray⟩, .int .i64 v], .int .i64 ((a + n : Nat) : Int), .pointer none]) (by simp [results, Tryz.results465, go_sem, hc']) rfl (says_tok (unhide HC) (below4 (((Below.refl _ _).alloc (Nat.le_refl _) _).trans (hb.mono (by simp))) (Nat.le_refl _) _ _ _ _) rfl rfl)
      · have hsg : signB (s[a].toNat : Int) = false := (Bool.not_eq_true _).mp hsg
        have hC : cut (s.data.toList.drop a) = cutName (s.data.toList.drop a) := by rw [cut, hh, hdg, if_neg (by decide), if_neg h34, hsg]; rfl
        have HX : Hid (∀ W, Calls Tryz.prog 538 #[.string s, .int .i64 a] W fun e w' => CutSays W a (cutName (s.data.toList.drop a)) e w') := fun W => cutName_any s a W h1 (by omega)
        rcases hcut : cutName (s.data.toList.drop a) with ⟨o, y⟩ | ⟨k, S, v, n⟩
        · have HC := hide (hC.trans hcut)
          have HY : Hid (∀ W, Calls Tryz.prog 538 #[.string s, .int .i64 a] W fun e w' => CutSays W a (.inl (o, y)) e w') := by rw [← hcut]; exact HX
          clear HX hcut hC hh h34
          go_enter Tryz.func465, Tryz.ntmps465
          go_wp2_with (first | (go_at_call 533; refine (isDigit_any _ _).mono ?_; rintro e w' ⟨rfl, rfl⟩) | (go_at_call 534; refine (isSign_any _ _ hx0 hx1).mono ?_; rintro e w' ⟨rfl, rfl⟩) | (go_at_call 538; go_fit (unhide HY _); rintro e w1 ⟨hb, b, rfl, hge, hblk⟩; obtain ⟨hc', hf'⟩ := bcell hb))
          exact bodyPost_ret (v := .tuple #[.agg #[.int .i64 0, .int .i64 0, .string ⟨#[]⟩, .int .i64 0], .int .i64 0, .pointer (some ⟨b, 0, none⟩)]) (by simp [results, Tryz.results465, go_sem, hc']) rfl (says_no (unhide HC) (below4 (((Below.refl _ _).alloc (Nat.le_refl _) _).trans (hb.mono (by simp))) (Nat.le_refl _) _ _ _ _) (by simp at hge; omega) (by rw [heap4 _ _ _ _ _ _ _ (by simp at hge; omega)]; exact hblk))
        · have HC := hide (hC.trans hcut)
          have HY : Hid (∀ W, Calls Tryz.prog 538 #[.string s, .int .i64 a] W fun e w' => CutSays W a (.inr (k, S, v, n)) e w') := by rw [← hcut]; exact HX
          clear HX hcut hC hh h34
          go_enter Tryz.func465, Tryz.ntmps465
          go_wp2_with (first | (go_at_call 533; refine (isDigit_any _ _).mono ?_; rintro e w' ⟨rfl, rfl⟩) | (go_at_call 534; refine (isSign_any _ _ hx0 hx1).mono ?_; rintro e w' ⟨rfl, rfl⟩) | (go_at_call 538; go_fit (unhide HY _); rintro e w1 ⟨hb, rfl⟩; obtain ⟨hc', hf'⟩ := bcell hb))
          exact bodyPost_ret (v := .tuple #[.agg #[.int .i64 a, .int .i64 k, .string ⟨S.toArray⟩, .int .i64 v], .int .i64 ((a + n : Nat) : Int), .pointer none]) (by simp [results, Tryz.results465, go_sem, hc']) rfl (says_tok (unhide HC) (below4 (((Below.refl _ _).alloc (Nat.le_refl _) _).trans (hb.mono (by simp))) (Nat.le_refl _) _ _ _ _) rfl rfl)

set_option maxHeartbeats 2000000 in
set_option maxRecDepth 100000 in
theorem next_any (s : ByteArray) (a m : Nat) (w : World) (h1 : a < s.size) (hs : s.size ≤ 140737488355328) :
    Calls Tryz.prog 378 #[.string s, .int .i64 a, .int .i64 m] w fun e w' => CutSays w a (next (s.data.toList.drop a) m) e w' := by
  have hh := hd_at s a h1
  obtain ⟨hx0, hx1⟩ := byte_bd s[a]
  by_cases hbg : beginB (s[a].toNat : Int) = true
  · by_cases hm : 4096 ≤ m
    · have HC : Hid (next (s.data.toList.drop a) m = .inl (0, 3)) := by show _ = _; rw [next, hh, hbg, if_neg (by decide), if_pos hm]
      have hm' : (4096 : Int) ≤ (m : Int) := by omega
      clear hh
      go_enter Tryz.func378, Tryz.ntmps378
      go_wp2_with (first | (go_at_call 464; refine (begins_any _ _ hx0 hx1).mono ?_; rintro e w' ⟨rfl, rfl⟩) | (go_at_call 376; refine (refuse_any _ _ _).mono ?_; rintro e w' ⟨rfl, rfl⟩))
      exact bodyPost_ret (v := .tuple #[.agg #[.int .i64 0, .int .i64 0, .string ⟨#[]⟩, .int .i64 0], .int .i64 0, .pointer (some ⟨w.heap.size + 1, 0, none⟩)]) (by simp [results, Tryz.results378, go_sem]) rfl (says_no (unhide HC) (below2 _ _ _) (by omega) (heap_last2 _ _ _))
    · have hC : next (s.data.toList.drop a) m = cut (s.data.toList.drop a) := by rw [next, hh, hbg, if_neg (by decide), if_neg hm]
      have hm' : (m : Int) < 4096 := by omega
      have HX : Hid (∀ W, Calls Tryz.prog 465 #[.string s, .int .i64 a] W fun e w' => CutSays W a (cut (s.data.toList.drop a)) e w') := fun W => cut_any s a W h1 hs
      rcases hcut : cut (s.data.toList.drop a) with ⟨o, y⟩ | ⟨k, S, v, n⟩
      · have HC := hide (hC.trans hcut)
        have HY : Hid (∀ W, Calls Tryz.prog 465 #[.string s, .int .i64 a] W fun e w' => CutSays W a (.inl (o, y)) e w') := by rw [← hcut]; exact HX
        clear HX hcut hC hh
        go_enter Tryz.func378, Tryz.ntmps378
        go_wp2_with (first | (go_at_call 464; refine (begins_any _ _ hx0 hx1).mono ?_; rintro e w' ⟨rfl, rfl⟩) | (go_at_call 465; go_fit (unhide HY _); rintro e w1 ⟨hb, b, rfl, hge, hblk⟩; obtain ⟨hc', hf'⟩ := bcell hb))
        exact bodyPost_ret (v := .tuple #[.agg #[.int .i64 0, .int .i64 0, .string ⟨#[]⟩, .int .i64 0], .int .i64 0, .pointer (some ⟨b, 0, none⟩)]) (by simp [results, Tryz.results378, go_sem, hc']) rfl (says_no (unhide HC) (below4 (((Below.refl _ _).alloc (Nat.le_refl _) _).trans (hb.mono (by simp))) (Nat.le_refl _) _ _ _ _) (by simp at hge; omega) (by rw [heap4 _ _ _ _ _ _ _ (by simp at hge; omega)]; exact hblk))
      · have HC := hide (hC.trans hcut)
        have HY : Hid (∀ W, Calls Tryz.prog 465 #[.string s, .int .i64 a] W fun e w' => CutSays W a (.inr (k, S, v, n)) e w') := by rw [← hcut]; exact HX
        clear HX hcut hC hh
        go_enter Tryz.func378, Tryz.ntmps378
        go_wp2_with (first | (go_at_call 464; refine (begins_any _ _ hx0 hx1).mono ?_; rintro e w' ⟨rfl, rfl⟩) | (go_at_call 465; go_fit (unhide HY _); rintro e w1 ⟨hb, rfl⟩; obtain ⟨hc', hf'⟩ := bcell hb))
        exact bodyPost_ret (v := .tuple #[.agg #[.int .i64 a, .int .i64 k, .string ⟨S.toArray⟩, .int .i64 v], .int .i64 ((a + n : Nat) : Int), .pointer none]) (by simp [results, Tryz.results378, go_sem, hc']) rfl (says_tok (unhide HC) (below4 (((Below.refl _ _).alloc (Nat.le_refl _) _).trans (hb.mono (by simp))) (Nat.le_refl _) _ _ _ _) rfl rfl)
  · have hbg : beginB (s[a].toNat : Int) = false := (Bool.not_eq_true _).mp hbg
    have HC : Hid (next (s.data.toList.drop a) m = .inl (0, 10)) := by show _ = _; rw [next, hh, hbg]; rfl
    clear hh
    go_enter Tryz.func378, Tryz.ntmps378
    go_wp2_with (first | (go_at_call 464; refine (begins_any _ _ hx0 hx1).mono ?_; rintro e w' ⟨rfl, rfl⟩) | (go_at_call 376; refine (refuse_any _ _ _).mono ?_; rintro e w' ⟨rfl, rfl⟩))
    exact bodyPost_ret (v := .tuple #[.agg #[.int .i64 0, .int .i64 0, .string ⟨#[]⟩, .int .i64 0], .int .i64 0, .pointer (some ⟨w.heap.size + 1, 0, none⟩)]) (by simp [results, Tryz.results378, go_sem]) rfl (says_no (unhide HC) (below2 _ _ _) (by omega) (heap_last2 _ _ _))
end Go.Proofs.YtcofioeikpiabaaGreatDoor
