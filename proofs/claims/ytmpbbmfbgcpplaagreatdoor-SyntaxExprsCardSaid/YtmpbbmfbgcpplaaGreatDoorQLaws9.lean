/-
  Plain laws: around the longest text, the most tokens, the longest name.
-/
import Derived.Test.YtmpbbmfbgcpplaaGreatDoorQLaws6
namespace Go.Proofs.YtmpbbmfbgcpplaaGreatDoor
namespace Lx
open Lib

theorem blanks_skip : ∀ n, skip (List.replicate n 32) = n
  | 0 => rfl
  | n + 1 => by rw [List.replicate_succ, skip_blank _ _ (by decide), blanks_skip n]; omega
theorem blanks_lex {n : Nat} (h : n ≤ 65536) : lex (List.replicate n 32) = ([], none) :=
  lex_of (by simp; omega) (.done _ _ (by rw [blanks_skip, List.drop_of_length_le (by simp)])) (by simp)
theorem blanks_long {n : Nat} (h : 65536 < n) : (lex (List.replicate n 32)).2 = some (0, 2) := by rw [lex, if_pos (by simp; omega)]
/-- so many signs with a blank behind each. -/
def semi : Nat → Bs
  | 0 => []
  | n + 1 => 59 :: 32 :: semi n
theorem semi_snoc : ∀ n, semi n ++ [59, 32] = semi (n + 1)
  | 0 => rfl
  | n + 1 => by show 59 :: 32 :: (semi n ++ [59, 32]) = _; rw [semi_snoc n]; rfl
theorem semi_len : ∀ n, (semi n).length = 2 * n
  | 0 => rfl
  | n + 1 => by show (semi n).length + 1 + 1 = _; rw [semi_len n]; omega
def semiT : Nat → Nat → List Tok
  | _, 0 => []
  | a, n + 1 => (a, 6, [59], 0) :: semiT (a + 2) n
theorem semiT_len : ∀ n a, (semiT a n).length = n
  | 0, _ => rfl
  | n + 1, a => by show (semiT (a + 2) n).length + 1 = _; rw [semiT_len n]
theorem semi_sound : sound (0, 6, [59], 0) = true := by decide +kernel
theorem semi_lay : ∀ n a, Lay (semi n) a (semiT a n)
  | 0, a => .done _ _ rfl
  | n + 1, a => by
    have ih := semi_lay n (a + 1 + 1)
    have l1 : Lay ([32] ++ semi n) (a + 1) (semiT (a + 2) n) := Lay.ahead (g := [32]) (by
      show skip (32 :: semi n) = _
      rw [skip_blank _ _ (by decide)]; rfl) ih
    exact Lay.put (g := []) (r := 32 :: semi n) (a := a) (t := (0, 6, [59], 0)) semi_sound (by show (0 : Int) ≤ _; omega) (halt_of (by rfl) (by show (32 : Int) ≠ 61; omega)) (begin_skip (by rfl)).1 l1
theorem semi_lex {n : Nat} (h : n ≤ 4096) : lex (semi n) = (semiT 0 n, none) := lex_of (by rw [semi_len]; omega) (semi_lay n 0) (by rw [semiT_len]; exact h)
theorem lexF_blank (f : Nat) (l : Bs) (a m : Nat) : lexF (f + 1) (32 :: l) a m = lexF (f + 1) l (a + 1) m := by
  have e : skip (32 :: l) = 1 + skip l := skip_blank _ _ (by decide)
  have d : ∀ j, (32 :: l).drop (1 + skip l + j) = l.drop (skip l + j) := fun j => by rw [show 1 + skip l + j = (skip l + j) + 1 from by omega, List.drop_succ_cons]
  have d0 : (32 :: l).drop (1 + skip l) = l.drop (skip l) := by have := d 0; simpa using this
  rw [lexF, lexF, e, d0]
  split
  · rfl
  · split
    · rename_i o y _
      rw [show a + (1 + skip l) + o = a + 1 + skip l + o from by omega]
    · rename_i k s v j _
      rw [d j, show a + (1 + skip l) + j = a + 1 + skip l + j from by omega, show a + (1 + skip l) = a + 1 + skip l from by omega]
theorem semi_over : ∀ (n a m f : Nat), 2 * n < f → m ≤ 4096 → 4096 < m + n → (lexF f (semi n) a m).2 = some (a + 2 * (4096 - m), 3)
  | 0, a, m, f, _, h1, h2 => by omega
  | n + 1, a, m, f, hf, h1, h2 => by
    obtain ⟨f, rfl⟩ : ∃ g, f = g + 2 := ⟨f - 2, by omega⟩
    have hs : skip (semi (n + 1)) = 0 := (begin_skip (x := semi (n + 1)) (by rfl)).1
    have hb : beginB (hd (semi (n + 1))) = true := by rfl
    have hc : cut (semi (n + 1)) = .inr (6, [59], 0, 1) := (sound_cut (t := (0, 6, [59], 0)) (r := 32 :: semi n) semi_sound (by show (0 : Int) ≤ _; omega) (halt_of (by rfl) (by show (32 : Int) ≠ 61; omega))).2.2
    rw [lexF, hs, List.drop_zero, if_neg (by simp [semi]), next, if_neg (by rw [hb]; decide)]
    by_cases hm : 4096 ≤ m
    · rw [if_pos hm]
      have : m = 4096 := by omega
      subst this; rfl
    · rw [if_neg hm, hc]
      simp only
      have e : (semi (n + 1)).drop (0 + 1) = 32 :: semi n := rfl
      rw [e, lexF_blank, semi_over n (a + 0 + 1 + 1) (m + 1) (f + 1) (by omega) (by omega) (by omega)]
      congr 2; omega
theorem semi_many {n : Nat} (h1 : 4096 < n) (h : n ≤ 5000) : (lex (semi n)).2 = some (8192, 3) := by
  rw [lex, if_neg (by rw [semi_len]; omega), semi_over n 0 0 _ (by rw [semi_len]; omega) (by omega) (by omega)]
theorem semi_text : tokText (0, 6, [59], 0) = [59] := tokText_own (by simp) (by simp)
theorem semi_joinW : ∀ (n i : Nat) (acc : Bs), 0 < i → acc.length + 2 * n ≤ 65536 → ∃ l, joinW (List.replicate n (0, 6, [59], 0)) i acc = some l ∧ l.length = acc.length + 2 * n
  | 0, i, acc, _, _ => ⟨acc, rfl, by simp⟩
  | n + 1, i, acc, hi, h => by
    rw [List.replicate_succ, joinW, if_pos hi, semi_text, if_neg (by simp; omega), if_neg (by simp; omega)]
    obtain ⟨l, h1, h2⟩ := semi_joinW n (i + 1) (acc ++ [32] ++ [59]) (by omega) (by simp; omega)
    exact ⟨l, h1, by rw [h2]; simp; omega⟩
theorem semi_all (n : Nat) : (List.replicate n ((0, 6, [59], 0) : Tok)).all sound = true := by
  rw [List.all_eq_true]
  intro x hx
  rw [List.eq_of_mem_replicate hx]; exact semi_sound
theorem semi_first {n : Nat} (h : 2 * n ≤ 60000) : ∃ l, joinW (List.replicate (n + 1) (0, 6, [59], 0)) 0 [] = some l ∧ l.length = 2 * n + 1 := by
  obtain ⟨l, h1, h2⟩ := semi_joinW n 1 [59] (by omega) (by simp; omega)
  refine ⟨l, ?_, by rw [h2]; simp; omega⟩
  rw [List.replicate_succ, joinW, if_neg (Nat.lt_irrefl 0), semi_text, if_neg (by simp), if_neg (by simp)]
  exact h1
theorem semi_join {n : Nat} (h1 : 1 ≤ n) (h : n ≤ 4096) : ∃ l, join (List.replicate n (0, 6, [59], 0)) = .inr l ∧ l.length = 2 * n - 1 := by
  obtain ⟨m, rfl⟩ : ∃ m, n = m + 1 := ⟨n - 1, by omega⟩
  obtain ⟨l, e1, e2⟩ := semi_first (n := m) (by omega)
  refine ⟨l, ?_, by omega⟩
  rw [join, if_neg (by rw [semi_all]; decide), e1]
  simp only
  rw [if_neg (by rw [List.length_replicate]; omega)]
theorem semi_join_many {n : Nat} (h1 : 4096 < n) (h : n ≤ 5000) : join (List.replicate n (0, 6, [59], 0)) = .inl 3 := by
  obtain ⟨m, rfl⟩ : ∃ m, n = m + 1 := ⟨n - 1, by omega⟩
  obtain ⟨l, e1, e2⟩ := semi_first (n := m) (by omega)
  rw [join, if_neg (by rw [semi_all]; decide), e1]
  simp only
  rw [if_pos (by rw [List.length_replicate]; exact h1)]
theorem long_name : (lex (List.replicate 33 97)).2 = some (32, 2) ∧ join [(0, 1, List.replicate 33 97, 0)] = .inl 1 := by decide +kernel
theorem name_31 : lex (List.replicate 31 97) = ([(0, 1, List.replicate 31 97, 0)], none) ∧ join [(0, 1, List.replicate 31 97, 0)] = .inr (List.replicate 31 97) := by decide +kernel
theorem name_32 : lex (List.replicate 32 97) = ([(0, 1, List.replicate 32 97, 0)], none) ∧ join [(0, 1, List.replicate 32 97, 0)] = .inr (List.replicate 32 97) := by decide +kernel
end Lx
end Go.Proofs.YtmpbbmfbgcpplaaGreatDoor
