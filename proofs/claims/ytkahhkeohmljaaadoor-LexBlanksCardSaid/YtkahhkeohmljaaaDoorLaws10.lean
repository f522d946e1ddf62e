/-
  Plain laws: blanks and remarks between tokens turn nothing but places.
-/
import Derived.Test.YtkahhkeohmljaaaDoorLaws6
namespace Go.Proofs.YtkahhkeohmljaaaDoor
namespace Lx
open Lib

def rows5 : List Bs := [[32], [10], [9, 32, 13], [47, 47, 32, 97, 32, 34, 32, 114, 101, 109, 97, 114, 107, 32, 255, 10], [32, 47, 47, 10, 10]]
theorem rows_gap : ∀ g ∈ rows5, Gap g ∧ g.length ≤ 16 := by
  intro g hg
  have h : ∀ x, beginB (hd x) = true → skipN false x = 0 := fun x hx => (begin_skip hx).1
  simp only [rows5, List.mem_cons, List.not_mem_nil, or_false] at hg
  rcases hg with rfl | rfl | rfl | rfl | rfl
  all_goals
    refine ⟨⟨by simp, by decide, by decide, fun x hx => ?_⟩, by decide⟩
    simp [skip, skipN, blankB, h x hx]
def theEnd : Bs := [32, 47, 47, 32, 101, 110, 100]
theorem end_tail : Tail theEnd := ⟨.inr ⟨by decide, by decide⟩, by decide +kernel⟩
theorem mixed_snoc (gs : List (Bs × Tok)) (p : Bs × Tok) : mixed (gs ++ [p]) = mixed gs ++ p.1 ++ tokText p.2 := by simp [mixed]
theorem mixed_lex {gs : List (Bs × Tok)} {x : List Tok} (hg : ∀ p ∈ gs, Gap p.1) (hx : gs.map (·.2) = x) (hs : ∀ t ∈ x, sound t = true ∧ t.2.2.2 ≤ 9223372036854775807) (hn : x.length ≤ 4096) (hl : (mixed gs).length ≤ 60000) :
    ∃ y, lex (mixed gs ++ theEnd) = (y, none) ∧ y.map (·.2) = x.map (·.2) := by
  obtain ⟨us, h1, h2⟩ := Lay.mixed gs theEnd 0 hg (fun p hp => hs p.2 (by rw [← hx]; exact List.mem_map.2 ⟨p, hp, rfl⟩)) end_tail
  have e : gs.map (·.2.2) = x.map (·.2) := by rw [← hx, List.map_map]; rfl
  rw [e] at h2
  have hlen := congrArg List.length h2
  simp only [List.length_map] at hlen
  exact ⟨us, lex_of (by rw [List.length_append]; simp [theEnd]; omega) h1 (by omega), h2⟩
end Lx
end Go.Proofs.YtkahhkeohmljaaaDoor
