/-
  Plain laws: names of letters.
-/
import Derived.Test.YtkahhkeohmljaabDoorLaws6
namespace Go.Proofs.YtkahhkeohmljaabDoor
namespace Lx
open Lib

def letterB (b : Int) : Bool := smallB b || greatB b
theorem letter_is {x : Int} (h : letterB x = true) : nameB x = true ∧ digitB x = false ∧ x ≠ 34 ∧ signB x = false ∧ beginB x = true := by
  have hb : (97 ≤ x ∧ x ≤ 122) ∨ (65 ≤ x ∧ x ≤ 90) := by simpa [letterB, smallB, greatB] using h
  have hn : nameB x = true := by
    simp only [letterB, Bool.or_eq_true] at h
    simp only [nameB, Bool.or_eq_true]
    rcases h with h | h
    · exact .inl (.inl (.inl h))
    · exact .inl (.inl (.inr h))
  have hg : beginB x = true := by
    simp only [letterB, Bool.or_eq_true] at h
    simp only [beginB, Bool.or_eq_true]
    rcases h with h | h
    · exact .inl (.inl (.inl (.inl h)))
    · exact .inl (.inl (.inl (.inr h)))
  refine ⟨hn, ?_, by omega, ?_, hg⟩
  · rw [Bool.eq_false_iff]
    intro hd
    simp only [digitB, Bool.and_eq_true, decide_eq_true_eq] at hd
    omega
  · rw [Bool.eq_false_iff]
    intro hd
    simp [signB, signs] at hd
    omega
theorem letters_cut {s : Bs} (h0 : s ≠ []) (hl : s.length ≤ 32) (ha : ∀ c ∈ s, letterB (c.toNat : Int) = true) : cut s = .inr (kindOf s, s, 0, s.length) ∧ beginB (hd s) = true := by
  cases s with
  | nil => exact absurd rfl h0
  | cons c t =>
    obtain ⟨_, h2, h3, h4, h5⟩ := letter_is (ha c (by simp))
    have hr : runLen nameB t = t.length := run_of_all nameB t fun x hx => (letter_is (ha x (by simp [hx]))).1
    refine ⟨?_, h5⟩
    rw [cut_name (l := c :: t) h2 h3 h4]
    unfold cutName
    rw [List.tail_cons, hr]
    rw [List.length_cons] at hl ⊢
    rw [if_neg (by omega), show 1 + t.length = (c :: t).length from by simp; omega, List.take_length]
    rfl
theorem letters_sound {s : Bs} (h0 : s ≠ []) (hl : s.length ≤ 32) (ha : ∀ c ∈ s, letterB (c.toNat : Int) = true) : sound (0, kindOf s, s, 0) = true := by
  obtain ⟨h1, h2⟩ := letters_cut h0 hl ha
  have h3 := self_of h2 h0 h1 rfl
  have h4 : kindOf s = 1 ∨ kindOf s = 2 ∨ kindOf s = 3 ∨ kindOf s = 6 := by have := kind_of s; omega
  simp [sound, h4, h3]
theorem letters_text (s : Bs) : tokText (0, kindOf s, s, 0) = s := by
  have := kind_of s
  exact tokText_own (by show kindOf s ≠ 4; omega) (by show kindOf s ≠ 5; omega)
theorem letters_lay {s r : Bs} {a : Nat} {ts : List Tok} (h0 : s ≠ []) (hl : s.length ≤ 32) (ha : ∀ c ∈ s, letterB (c.toNat : Int) = true) (hr : r = [] ∨ hd r = 32) (h : Lay r (a + s.length) ts) : Lay (s ++ r) a ((a, kindOf s, s, 0) :: ts) := by
  have hs := letters_sound h0 hl ha
  have hh : Halt (kindOf s) s r := by
    rcases hr with hr | hr
    · exact .inl hr
    · exact halt_of (by rw [hr]; decide) (by rw [hr]; decide)
  have hb := (letters_cut h0 hl ha).2
  have := Lay.put (g := []) (r := r) (a := a) (t := (0, kindOf s, s, 0)) (ts := ts) hs (by show (0 : Int) ≤ _; omega) hh (by
    rw [letters_text, List.nil_append]; exact (begin_skip (by rw [hd_app _ h0]; exact hb)).1) (by rw [letters_text]; exact h)
  rw [letters_text] at this
  exact this
theorem letters_lex {s : Bs} (h0 : s ≠ []) (hl : s.length ≤ 32) (ha : ∀ c ∈ s, letterB (c.toNat : Int) = true) : lex s = ([(0, kindOf s, s, 0)], none) := by
  have := letters_lay (r := []) (a := 0) (ts := []) h0 hl ha (.inl rfl) (.done _ _ (by simp))
  rw [List.append_nil] at this
  exact lex_of (by omega) this (by simp)
theorem letters_blank {s : Bs} (h0 : s ≠ []) (hl : s.length ≤ 32) (ha : ∀ c ∈ s, letterB (c.toNat : Int) = true) : lex (s ++ [32]) = ([(0, kindOf s, s, 0)], none) :=
  lex_of (by simp; omega) (letters_lay (r := [32]) (a := 0) (ts := []) h0 hl ha (.inr rfl) (.done _ _ (by rfl))) (by simp)
theorem letters_two {s t : Bs} (h0 : s ≠ []) (hl : s.length ≤ 32) (ha : ∀ c ∈ s, letterB (c.toNat : Int) = true) (g0 : t ≠ []) (gl : t.length ≤ 32) (ga : ∀ c ∈ t, letterB (c.toNat : Int) = true) :
    lex (s ++ 32 :: t) = ([(0, kindOf s, s, 0), (s.length + 1, kindOf t, t, 0)], none) := by
  have l2 := letters_lay (r := []) (a := 0 + s.length + 1) (ts := []) g0 gl ga (.inl rfl) (.done _ _ (by simp))
  rw [List.append_nil] at l2
  have hb := (letters_cut g0 gl ga).2
  have l1 : Lay ([32] ++ t) (0 + s.length) [(0 + s.length + 1, kindOf t, t, 0)] := Lay.ahead (by rw [gap_blank.2.2.2 t hb, (begin_skip hb).1]; rfl) l2
  have := letters_lay (r := 32 :: t) (a := 0) h0 hl ha (.inr rfl) l1
  rw [Nat.zero_add] at this
  exact lex_of (by simp; omega) this (by simp)
theorem words_small : ∀ x ∈ words, greatB (hd x) = false := by decide +kernel
theorem word_kind {s : Bs} (h : words.contains s = true) : kindOf s = 3 := by
  have := words_small s (by simpa using h)
  rw [kindOf, this, h]; rfl
theorem great_kind {s : Bs} (h : greatB (hd s) = true) : kindOf s = 2 := by rw [kindOf, if_pos h]
theorem name_kind {s : Bs} (h : greatB (hd s) = false) (h2 : words.contains s = false) : kindOf s = 1 := by rw [kindOf, h, h2]; rfl
end Lx
end Go.Proofs.YtkahhkeohmljaabDoor
