/-
  cutName of package lex, walked.
-/
import Derived.Test.YtcofioeikpiabaaGreatDoorCuts
namespace Go.Proofs.YtcofioeikpiabaaGreatDoor
open Go.RowKit Lx

theorem runLen_at (p : Int → Bool) (s : ByteArray) (k : Nat) (h : k < s.size) (hp : p (s[k].toNat : Int) = true) : runLen p (s.data.toList.drop k) = 1 + runLen p (s.data.toList.drop (k + 1)) := by
  rw [drop_cons s k h, runLen_yes _ _ _ hp]
theorem runLen_stop (p : Int → Bool) (s : ByteArray) (k : Nat) (h : k < s.size) (hp : p (s[k].toNat : Int) = false) : runLen p (s.data.toList.drop k) = 0 := by
  rw [drop_cons s k h, runLen_no _ _ _ hp]
theorem runLen_end (p : Int → Bool) (s : ByteArray) (k : Nat) (h : s.size ≤ k) : runLen p (s.data.toList.drop k) = 0 := by
  rw [List.drop_of_length_le (by simpa using h)]; rfl
theorem tail_drop (s : ByteArray) (a : Nat) : (s.data.toList.drop a).tail = s.data.toList.drop (a + 1) := by simp
theorem heap_last (w : World) (o : Obj) : (w.alloc o).heap[w.heap.size]? = some o := by
  show (w.heap.push o)[w.heap.size]? = _
  simp
theorem heap_last2 (w : World) (o o' : Obj) : ((w.alloc o).alloc o').heap[w.heap.size + 1]? = some o' := by
  have := heap_last (w.alloc o) o'; simpa using this
theorem below2 (w : World) (o o' : Obj) : Below w.heap.size w ((w.alloc o).alloc o') := ((Below.refl _ _).alloc (Nat.le_refl _) _).alloc (by simp) _

set_option maxHeartbeats 1000000 in
set_option maxRecDepth 100000 in
theorem cutName_any (s : ByteArray) (a : Nat) (w : World) (h1 : a < s.size) (hs : s.size ≤ 281474976710656) :
    Calls Tryz.prog 538 #[.string s, .int .i64 a] w fun e w' => CutSays w a (cutName (s.data.toList.drop a)) e w' := by
  go_enter Tryz.func538, Tryz.ntmps538
  go_wp2
  go_loop [7] (fun i => ∃ k : Nat, a + 1 ≤ k ∧ k ≤ s.size ∧ k ≤ a + 32 ∧ i = .int .i64 k ∧ Hid (1 + runLen nameB (s.data.toList.drop (a + 1)) = (k - a) + runLen nameB (s.data.toList.drop k))) (fun i => s.size - (intOf i).toNat)
  case atStart => exact ⟨a + 1, by omega, by omega, by omega, by go_num, by show _ = _; omega⟩
  case round =>
    obtain ⟨k, hk1, hk2, hk3, rfl, HK⟩ := hrel
    by_cases hc : ∃ h : k < s.size, nameB (s[k].toNat : Int) = true
    · obtain ⟨hlt, hn⟩ := hc
      have HR := hide (runLen_at nameB s k hlt hn)
      by_cases h32 : k = a + 32
      · have HC : Hid (cutName (s.data.toList.drop a) = .inl (32, 2)) := by
          show _ = _
          have e1 := unhide HK
          have e2 := unhide HR
          rw [cutName, tail_drop, if_pos (by omega)]
        have h32' : ((k : Int) - (a : Int) == 32) = true := by simp; omega
        clear HK HR
        have H32 := hide h32
        clear h32
        go_wp2_with (first | (go_at_call 587; refine (inName_any _ _).mono ?_; rintro e w' ⟨rfl, rfl⟩) | (go_at_call 376; refine (refuse_any _ _ _).mono ?_; rintro e w' ⟨rfl, rfl⟩))
        exact bodyPost_ret (v := .tuple #[.agg #[.int .i64 0, .int .i64 0, .string ⟨#[]⟩, .int .i64 0], .int .i64 0, .pointer (some ⟨w.heap.size + 1, 0, none⟩)]) (by simp [results, Tryz.results538, go_sem]) rfl
          (says_no (unhide HC) (below2 _ _ _) (by omega) (by rw [heap_last2, unhide H32]; rfl))
      · have h32' : ((k : Int) - (a : Int) == 32) = false := by simp; omega
        have h32 : k < a + 32 := by omega
        go_wp2_with (first | (go_at_call 587; refine (inName_any _ _).mono ?_; rintro e w' ⟨rfl, rfl⟩))
        go_round
        case rel => exact ⟨k + 1, by omega, by omega, by omega, by go_num, by have e1 := unhide HK; have e2 := unhide HR; show _ = _; omega⟩
        case measure => simp [intOf]; omega
    · have HR : Hid (runLen nameB (s.data.toList.drop k) = 0) := by
        show _ = _
        by_cases hlt : k < s.size
        · exact runLen_stop nameB s k hlt ((Bool.not_eq_true _).mp fun h => hc ⟨hlt, h⟩)
        · exact runLen_end nameB s k (by omega)
      have HC : Hid (cutName (s.data.toList.drop a) = .inr (kindOf ((s.data.toList.drop a).take (k - a)), (s.data.toList.drop a).take (k - a), 0, k - a)) := by
        show _ = _
        have e1 := unhide HK
        have e2 := unhide HR
        rw [cutName, tail_drop, if_neg (by omega), show 1 + runLen nameB (s.data.toList.drop (a + 1)) = k - a from by omega]
      have HE : Hid (s.extract a k = ⟨((s.data.toList.drop a).take (k - a)).toArray⟩) := by
        have := extract_take s a (k - a); rwa [show a + (k - a) = k from by omega] at this
      have hz : 0 < (s.extract a k).size := by simp; omega
      have hz2 : (s.extract a k).size ≤ maxLen := by unfold maxLen; simp; omega
      have NK : Hid (∀ w, _) := fun w => nameKind_any (s.extract a k) w hz hz2
      have WR : Hid (∀ w kd, _) := fun w kd => written_any kd s a k w (by omega) hk2 hs
      clear hz hz2
      have hak : a ≤ k := by omega
      clear HK HR
      by_cases hlt : k < s.size
      · have hn : nameB (s[k].toNat : Int) = false := (Bool.not_eq_true _).mp fun h => hc ⟨hlt, h⟩
        clear hc
        go_wp2_with (first | (go_at_call 587; refine (inName_any _ _).mono ?_; rintro e w' ⟨rfl, rfl⟩) | (go_at_call 590; go_fit (unhide NK _); rintro e w1 ⟨rfl, hb1⟩) | (go_at_call 589; go_fit (unhide WR _ _); rintro e w2 ⟨rfl, hb2⟩; have hb := hb1.trans (hb2.mono hb1.size); obtain ⟨hc', hf'⟩ := bcell hb))
        exact bodyPost_ret (v := .tuple #[.agg #[.int .i64 a, .int .i64 (kindOf ((s.data.toList.drop a).take (k - a))), .string (s.extract a k), .int .i64 0], .int .i64 k, .pointer none]) (by simp [results, Tryz.results538, go_sem, hc']) rfl
          (says_tok (unhide HC) (below4 (((Below.refl _ _).alloc (Nat.le_refl _) _).trans (hb.mono (by simp))) (Nat.le_refl _) _ _ _ _) (unhide HE) (by omega))
      · clear hc
        go_wp2_with (first | (go_at_call 590; go_fit (unhide NK _); rintro e w1 ⟨rfl, hb1⟩) | (go_at_call 589; go_fit (unhide WR _ _); rintro e w2 ⟨rfl, hb2⟩; have hb := hb1.trans (hb2.mono hb1.size); obtain ⟨hc', hf'⟩ := bcell hb))
        exact bodyPost_ret (v := .tuple #[.agg #[.int .i64 a, .int .i64 (kindOf ((s.data.toList.drop a).take (k - a))), .string (s.extract a k), .int .i64 0], .int .i64 k, .pointer none]) (by simp [results, Tryz.results538, go_sem, hc']) rfl
          (says_tok (unhide HC) (below4 (((Below.refl _ _).alloc (Nat.le_refl _) _).trans (hb.mono (by simp))) (Nat.le_refl _) _ _ _ _) (unhide HE) (by omega))
end Go.Proofs.YtcofioeikpiabaaGreatDoor
