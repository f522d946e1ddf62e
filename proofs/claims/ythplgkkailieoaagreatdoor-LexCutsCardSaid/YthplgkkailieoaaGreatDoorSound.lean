/-
  sayable, cutsItself and sound of package lex, walked.
-/
import Derived.Test.YthplgkkailieoaaGreatDoorSame
namespace Go.Proofs.YthplgkkailieoaaGreatDoor
namespace Lx
def sayB (c : UInt8) : Bool := c == 10 || plainB (c.toNat : Int)
def sayable (l : Bs) : Bool := l.all sayB
def cutsSelf (k : Int) (l : Bs) : Bool :=
  match l with
  | [] => false
  | _ => beginB (hd l) && (match cut l with
    | .inl _ => false
    | .inr (k', _, _, n) => n == l.length && k' == k)
/-- is it, but for its place, a token that can be cut? -/
def sound (t : Tok) : Bool :=
  if t.2.1 = 1 ∨ t.2.1 = 2 ∨ t.2.1 = 3 ∨ t.2.1 = 6 then t.2.2.2 == 0 && cutsSelf t.2.1 t.2.2.1
  else if t.2.1 = 4 then t.2.2.1.isEmpty && decide (0 ≤ t.2.2.2)
  else if t.2.1 = 5 then t.2.2.2 == 0 && sayable t.2.2.1 else false
theorem sayable_cons (c : UInt8) (r : Bs) : sayable (c :: r) = (sayB c && sayable r) := by simp [sayable]
end Lx
open Go Go.RowKit Lx

set_option maxHeartbeats 1000000 in
set_option maxRecDepth 100000 in
theorem sayable_any (s : ByteArray) (w : World) (hs : s.size ≤ maxLen) : Calls Tryz.prog 66 #[.string s] w fun e w' => e = .returned (.bool (sayable s.data.toList)) ∧ w = w' := by
  unfold maxLen at hs
  go_enter Tryz.func66, Tryz.ntmps66
  go_wp2
  go_loop [6] (fun i => ∃ k : Nat, k ≤ s.size ∧ i = .int .i64 k ∧ Hid (sayable s.data.toList = sayable (s.data.toList.drop k))) (fun i => s.size - (intOf i).toNat)
  case atStart => exact ⟨0, by omega, rfl, rfl⟩
  case round =>
    obtain ⟨k, hk, rfl, HK⟩ := hrel
    by_cases hlt : k < s.size
    · have hd := drop_cons s k hlt
      by_cases h10 : (s[k].toNat : Int) = 10
      · have HN : Hid (sayable s.data.toList = sayable (s.data.toList.drop (k + 1))) := by
          have e := unhide HK
          rw [hd, sayable_cons, byte_is (by decide) h10] at e
          show _ = _
          simpa [sayB] using e
        have hq : ((s[k].toNat : Int) != 10) = false := by simp [h10]
        clear h10 hd
        go_wp2
        go_round
        case rel => exact ⟨k + 1, by omega, by go_num, HN⟩
        case measure => simp [intOf]; omega
      · have hq : ((s[k].toNat : Int) != 10) = true := by simpa using h10
        have hn : (s[k] == 10) = false := by
          rw [beq_eq_false_iff_ne]; intro h; exact h10 (by rw [h]; rfl)
        by_cases hp : plainB (s[k].toNat : Int) = true
        · have HN : Hid (sayable s.data.toList = sayable (s.data.toList.drop (k + 1))) := by
            have e := unhide HK
            rw [hd, sayable_cons, sayB, hp] at e
            show _ = _
            simpa using e
          clear h10 hd hn
          go_wp2_with (go_at_call 81; refine (plain_w _ _).mono ?_; rintro e w' ⟨rfl, rfl⟩)
          go_round
          case rel => exact ⟨k + 1, by omega, by go_num, HN⟩
          case measure => simp [intOf]; omega
        · have hp : plainB (s[k].toNat : Int) = false := (Bool.not_eq_true _).mp hp
          have HN : Hid (sayable s.data.toList = false) := by
            have e := unhide HK
            rw [hd, sayable_cons, sayB, hp, hn] at e
            show _ = _
            simpa using e
          clear h10 hd hn
          go_wp2_with (go_at_call 81; refine (plain_w _ _).mono ?_; rintro e w' ⟨rfl, rfl⟩)
          go_ret
          exact ⟨by rw [unhide HN]; rfl, rfl⟩
    · have HN : Hid (sayable s.data.toList = true) := by
        have e := unhide HK
        rw [List.drop_of_length_le (by simp; omega)] at e
        exact e
      go_wp2
      go_ret
      exact ⟨by rw [unhide HN]; rfl, rfl⟩

theorem len_data (s : ByteArray) : s.data.toList.length = s.size := by simp
theorem toList_data (s : ByteArray) : s.toList = s.data.toList := by
  have h := Lib.extract_toList s 0 s.size
  have e : s.extract 0 s.size = s := by
    apply ByteArray.ext; apply Array.ext'
    simp
  rw [e, List.drop_zero, List.take_of_length_le (by rw [len_data]; omega)] at h
  exact h
theorem nil_of {s : ByteArray} (h : s.size = 0) : s.data.toList = [] := List.eq_nil_of_length_eq_zero ((len_data s).trans h)
theorem ne_nil_of {s : ByteArray} (h : ¬ s.size = 0) : s.data.toList ≠ [] := fun e => h (by rw [← len_data, e]; rfl)
theorem empty_of {s : ByteArray} (h : s.size = 0) : s.toList.isEmpty = true := by
  rw [toList_data, nil_of h]; rfl
theorem not_empty_of {s : ByteArray} (h : ¬ s.size = 0) : s.toList.isEmpty = false := by
  rw [toList_data]
  cases hd : s.data.toList with
  | nil => exact absurd hd (ne_nil_of h)
  | cons c r => rfl
set_option maxHeartbeats 1000000 in
set_option maxRecDepth 100000 in
theorem cutsItself_any (a k v : Int) (s : ByteArray) (w : World) (hs : s.size ≤ 140737488355328) :
    Calls Tryz.prog 65 #[.agg #[.int .i64 a, .int .i64 k, .string s, .int .i64 v]] w fun e w' => e = .returned (.bool (cutsSelf k s.data.toList)) ∧ Below w.heap.size w w' := by
  by_cases h0 : s.size = 0
  · have he : s.toList.isEmpty = true := empty_of h0
    have HF : Hid (cutsSelf k s.data.toList = false) := by
      show _ = _
      rw [nil_of h0]; rfl
    go_enter Tryz.func65, Tryz.ntmps65
    go_wp2
    go_ret
    exact ⟨by rw [unhide HF]; rfl, (Below.refl _ _).alloc (Nat.le_refl _) _⟩
  · have he : s.toList.isEmpty = false := not_empty_of h0
    have hp : 0 < s.size := by omega
    obtain ⟨hx0, hx1⟩ := byte_bd (s[0]'hp)
    have hh := hd_at s 0 hp
    rw [List.drop_zero] at hh
    obtain ⟨c, r, hcr⟩ := List.exists_cons_of_ne_nil (ne_nil_of h0)
    by_cases hb : beginB ((s[0]'hp).toNat : Int) = true
    · have CT := fun W => cut_any s 0 W hp hs
      rw [List.drop_zero] at CT
      rcases hc : cut s.data.toList with ⟨o, y⟩ | ⟨k', S, u, n⟩
      · rw [hc] at CT
        have CT := hide CT
        have HF : Hid (cutsSelf k s.data.toList = false) := by show _ = _; unfold cutsSelf; rw [hcr] at hc hh ⊢; simp [hc]
        clear hc hcr hh
        go_enter Tryz.func65, Tryz.ntmps65
        go_wp2_with (first | (go_at_call 76; refine (begins_any _ _ hx0 hx1).mono ?_; rintro e w' ⟨rfl, rfl⟩) | (go_at_call 77; refine (unhide CT _).mono ?_; rintro e w1 ⟨hbw, b, rfl, hge, hblk⟩; obtain ⟨hc', hf'⟩ := bcell hbw; have hz := hbw.size))
        go_ret
        exact ⟨by rw [unhide HF]; rfl, ((((Below.refl _ _).alloc (Nat.le_refl _) _).trans (hbw.mono (by simp))).alloc (by simp at hz; omega) _)⟩
      · rw [hc] at CT
        simp only [CutSays] at CT
        have HF : Hid (cutsSelf k s.data.toList = (((n : Int) == (s.size : Int)) && (k' == k))) := by
          have hsz : s.data.toList.length = s.size := by simp
          show _ = _
          rw [← hsz]; unfold cutsSelf; rw [hcr] at hc hh ⊢
          simp only [hc, hh, hb, Bool.true_and]
          congr 1
          rw [Bool.eq_iff_iff]; simp; omega
        clear hc hcr hh
        have hnz : ((0 + n : Nat) : Int) = (n : Int) := by omega
        simp only [hnz] at CT
        clear hnz
        have CT := hide CT
        by_cases hn : ((n : Int) == (s.size : Int)) = true
        · by_cases hk : (k' == k) = true
          · rw [hn, hk] at HF
            go_enter Tryz.func65, Tryz.ntmps65
            go_wp2_with (first | (go_at_call 76; refine (begins_any _ _ hx0 hx1).mono ?_; rintro e w' ⟨rfl, rfl⟩) | (go_at_call 77; refine (unhide CT _).mono ?_; rintro e w1 ⟨hbw, rfl⟩; obtain ⟨hc', hf'⟩ := bcell hbw; have hz := hbw.size; have hz' : w.heap.size < w1.heap.size := by simp at hz; omega))
            go_ret
            exact ⟨by rw [unhide HF]; rfl, ((((Below.refl _ _).alloc (Nat.le_refl _) _).trans (hbw.mono (by simp))).alloc (by simp at hz; omega) _)⟩
          · have hk : (k' == k) = false := (Bool.not_eq_true _).mp hk
            rw [hn, hk] at HF
            go_enter Tryz.func65, Tryz.ntmps65
            go_wp2_with (first | (go_at_call 76; refine (begins_any _ _ hx0 hx1).mono ?_; rintro e w' ⟨rfl, rfl⟩) | (go_at_call 77; refine (unhide CT _).mono ?_; rintro e w1 ⟨hbw, rfl⟩; obtain ⟨hc', hf'⟩ := bcell hbw; have hz := hbw.size; have hz' : w.heap.size < w1.heap.size := by simp at hz; omega))
            go_ret
            exact ⟨by rw [unhide HF]; rfl, ((((Below.refl _ _).alloc (Nat.le_refl _) _).trans (hbw.mono (by simp))).alloc (by simp at hz; omega) _)⟩
        · have hn : ((n : Int) == (s.size : Int)) = false := (Bool.not_eq_true _).mp hn
          rw [hn] at HF
          go_enter Tryz.func65, Tryz.ntmps65
          go_wp2_with (first | (go_at_call 76; refine (begins_any _ _ hx0 hx1).mono ?_; rintro e w' ⟨rfl, rfl⟩) | (go_at_call 77; refine (unhide CT _).mono ?_; rintro e w1 ⟨hbw, rfl⟩; obtain ⟨hc', hf'⟩ := bcell hbw; have hz := hbw.size; have hz' : w.heap.size < w1.heap.size := by simp at hz; omega))
          go_ret
          exact ⟨by rw [unhide HF]; rfl, ((((Below.refl _ _).alloc (Nat.le_refl _) _).trans (hbw.mono (by simp))).alloc (by simp at hz; omega) _)⟩
    · have hb : beginB ((s[0]'hp).toNat : Int) = false := (Bool.not_eq_true _).mp hb
      have HF : Hid (cutsSelf k s.data.toList = false) := by show _ = _; unfold cutsSelf; rw [hcr] at hh ⊢; simp [hh, hb]
      clear hcr hh
      go_enter Tryz.func65, Tryz.ntmps65
      go_wp2_with (first | (go_at_call 76; refine (begins_any _ _ hx0 hx1).mono ?_; rintro e w' ⟨rfl, rfl⟩))
      go_ret
      exact ⟨by rw [unhide HF]; rfl, (Below.refl _ _).alloc (Nat.le_refl _) _⟩
end Go.Proofs.YthplgkkailieoaaGreatDoor
