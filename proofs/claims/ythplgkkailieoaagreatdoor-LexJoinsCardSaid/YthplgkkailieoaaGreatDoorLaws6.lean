/-
  Plain laws for single statements: quoted texts, numbers, names, places.
-/
import Derived.Test.YthplgkkailieoaaGreatDoorLaws5
namespace Go.Proofs.YthplgkkailieoaaGreatDoor
namespace Lx
open Lib

theorem say_sound (l : Bs) : sound (0, 5, l, 0) = sayable l := by simp [sound]
theorem quote_join {l : Bs} (h : sayable l = true) (hl : l.length ≤ 1000) : join [(0, 5, l, 0)] = .inr (quote l) := by
  have e := join_one (t := (0, 5, l, 0)) (by rw [say_sound]; exact h) (by
    have := escs_two l
    rw [tokText_quote, quote]; simp; omega)
  rw [e, tokText_quote]
theorem quote_lex {l : Bs} (h : sayable l = true) (hl : l.length ≤ 1000) : lex (quote l) = ([(0, 5, l, 0)], none) := by
  have h2 := escs_two l
  have hs : sound (0, 5, l, 0) = true := by rw [say_sound]; exact h
  have e : tokText (0, 5, l, 0) = quote l := tokText_quote
  obtain ⟨h3, h4, _⟩ := sound_cut (t := (0, 5, l, 0)) (r := []) hs (by show (0 : Int) ≤ _; omega) (.inl rfl)
  have := Lay.put (g := []) (r := []) (a := 0) (t := (0, 5, l, 0)) (ts := []) hs (by show (0 : Int) ≤ _; omega) (.inl rfl) (by
    rw [List.nil_append, List.append_nil]; exact (begin_skip h4).1) (.done _ _ (by simp))
  rw [e] at this
  simp only [List.nil_append, List.append_nil, List.length_nil, Nat.add_zero] at this
  exact lex_of (by rw [quote]; simp; omega) this (by simp)

theorem num_sound (u : Nat) : sound (0, 4, [], (u : Int)) = true := by simp [sound]
theorem num_join {u : Nat} (h : u ≤ 9223372036854775807) : join [(0, 4, [], (u : Int))] = .inr (decDigits u) := by
  have e := join_one (t := (0, 4, [], (u : Int))) (num_sound u) (by
    rw [tokText_num, decDigits_length]
    have := nDigits_le20 u (by omega)
    omega)
  rw [e, tokText_num]
theorem num_lex {u : Nat} (h : u ≤ 9223372036854775807) : lex (120 :: 32 :: (decDigits u ++ [59])) = ([(0, 1, [120], 0), (2, 4, [], (u : Int)), (2 + (decDigits u).length, 6, [59], 0)], none) := by
  have h20 : (decDigits u).length ≤ 20 := by rw [decDigits_length]; exact nDigits_le20 u (by omega)
  have hx : sound (0, 1, [120], 0) = true := by decide +kernel
  have hs : sound (0, 6, [59], 0) = true := by decide +kernel
  have hn := num_sound u
  have l3 : Lay (([] : Bs) ++ (tokText (0, 6, [59], 0) ++ [])) (2 + (decDigits u).length) [(2 + (decDigits u).length, 6, [59], 0)] :=
    Lay.put (g := []) (t := (0, 6, [59], 0)) hs (by show (0 : Int) ≤ _; omega) (.inl rfl) (by decide +kernel) (.done _ _ (by simp))
  have e3 : ([] : Bs) ++ (tokText (0, 6, [59], 0) ++ []) = [59] := by decide +kernel
  rw [e3] at l3
  have hh : Halt 4 [] [59] := .inr ⟨fun _ => by decide, by omega⟩
  obtain ⟨q1, q2, _⟩ := sound_cut (t := (0, 4, [], (u : Int))) hn (by show (u : Int) ≤ _; omega) hh
  have l2 : Lay ([32] ++ (tokText (0, 4, [], (u : Int)) ++ [59])) 1 [(2, 4, [], (u : Int)), (2 + (decDigits u).length, 6, [59], 0)] :=
    Lay.put (g := [32]) (a := 1) (t := (0, 4, [], (u : Int))) hn (by show (u : Int) ≤ _; omega) hh (gap_blank.2.2.2 _ (by rw [hd_app _ q1]; exact q2)) (by rw [tokText_num]; exact l3)
  have l1 : Lay (([] : Bs) ++ (tokText (0, 1, [120], 0) ++ ([32] ++ (tokText (0, 4, [], (u : Int)) ++ [59])))) 0 [(0, 1, [120], 0), (2, 4, [], (u : Int)), (2 + (decDigits u).length, 6, [59], 0)] :=
    Lay.put (g := []) (a := 0) (t := (0, 1, [120], 0)) hx (by show (0 : Int) ≤ _; omega) (.inr ⟨fun _ => by rfl, fun h => by simp at h⟩) (begin_skip (by rfl)).1 l2
  rw [tokText_num] at l1
  exact lex_of (by simp; omega) l1 (by simp)
end Lx
end Go.Proofs.YthplgkkailieoaaGreatDoor
