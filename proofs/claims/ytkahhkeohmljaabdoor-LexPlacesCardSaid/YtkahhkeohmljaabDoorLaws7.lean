/-
  Plain laws: places.
-/
import Derived.Test.YtkahhkeohmljaabDoorLaws6
namespace Go.Proofs.YtkahhkeohmljaabDoor
namespace Lx
open Lib

theorem lay_none {l : Bs} {a : Nat} (h : Lay l a []) (hl : l.length ≤ 65536) : lex l = ([], none) := lex_of hl (.done _ _ h) (by simp)
/-- what stands ahead of the first token is blanks and remarks. -/
theorem lay_front {l : Bs} (h0 : l.drop (skip l) ≠ []) (hb : beginB (hd (l.drop (skip l))) = true) (hl : l.length ≤ 65536) : lex (l.take (skip l)) = ([], none) := by
  have hn := skip_not h0
  have e : l.take (skip l) ++ l.drop (skip l) = l := List.take_append_drop _ _
  have hlen : (l.take (skip l)).length = skip l := by rw [List.length_take]; omega
  have := skipN_front (l.take (skip l)) false (l.drop (skip l)) (by rw [e, hlen]; rfl) (begin_skip hb).2
  refine lay_none (a := 0) (.done _ _ ?_) (by rw [hlen]; omega)
  have e2 : skip (l.take (skip l)) = (l.take (skip l)).length := this
  rw [e2, List.drop_length]
theorem place_step {src : Bs} {e : Nat} {t : Tok} {ts : List Tok} (he : e ≤ src.length) (hl : src.length ≤ 4000) (h : Lay (src.drop e) e (t :: ts)) :
    joinW [t] 0 [] = some (tokText t) ∧ join [t] = .inr (tokText t) ∧ e ≤ t.1 ∧ t.1 + (tokText t).length ≤ src.length ∧ (src.drop t.1).take (tokText t).length = tokText t ∧ lex ((src.drop e).take (t.1 - e)) = ([], none) ∧
      Lay (src.drop (t.1 + (tokText t).length)) (t.1 + (tokText t).length) ts ∧ t.2.2.1.length ≤ 4000 ∧ 0 ≤ t.2.2.2 ∧ t.2.2.2 ≤ 9223372036854775807 := by
  rcases h.back with ⟨_, h⟩ | ⟨k, v, s, m, us, h0, hb, hc, hr, h⟩
  · cases h
  · cases h
    obtain ⟨r, h1, h2, h3, h4, h5, h6, h7⟩ := cut_is h0 hb hc
    obtain ⟨hm1, hm2⟩ := cut_size h0 hb hc
    have hsn := skip_not h0
    simp only [List.length_drop] at hm2 hsn
    have hT : tokText (e + skip (src.drop e), k, s, v) = tokText (0, k, s, v) := rfl
    rw [hT]
    have hle := own_le h3
    have hj : join [(e + skip (src.drop e), k, s, v)] = .inr (tokText (0, k, s, v)) := join_one (t := (e + skip (src.drop e), k, s, v)) h3 (by rw [hT]; omega)
    have hsl : (s : Bs).length ≤ (tokText (0, k, s, v)).length := hle
    refine ⟨?_, hj, Nat.le_add_right _ _, by show e + skip (src.drop e) + _ ≤ _; omega, ?_, ?_, ?_, by show (s : Bs).length ≤ _; omega, h4, h5⟩
    · simp only [joinW, Nat.lt_irrefl, if_false, List.append_nil, List.length_nil, List.nil_append, Nat.zero_add]
      rw [hT, if_neg (by omega), if_neg (by omega)]
    · have e1 : src.drop (e + skip (src.drop e)) = (src.drop e).drop (skip (src.drop e)) := by rw [List.drop_drop]
      show (src.drop (e + skip (src.drop e))).take _ = _
      rw [e1]
      conv => lhs; rw [h1]
      rw [List.take_left' rfl]
    · have e1 : e + skip (src.drop e) - e = skip (src.drop e) := by omega
      show lex ((src.drop e).take (e + skip (src.drop e) - e)) = _
      rw [e1]
      exact lay_front h0 hb (by simp; omega)
    · show Lay (src.drop (e + skip (src.drop e) + _)) (e + skip (src.drop e) + _) _
      rw [← h2, show e + skip (src.drop e) + m = e + (skip (src.drop e) + m) from by omega, ← List.drop_drop, ← Nat.add_assoc]
      exact hr
end Lx
end Go.Proofs.YtkahhkeohmljaabDoor
