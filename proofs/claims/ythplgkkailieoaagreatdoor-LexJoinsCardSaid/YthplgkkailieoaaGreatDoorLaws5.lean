/-
  Texts put together of tokens: what Join writes, and tokens with blanks and remarks between them, are cut into the same tokens.
-/
import Derived.Test.YthplgkkailieoaaGreatDoorLaws4
namespace Go.Proofs.YthplgkkailieoaaGreatDoor
namespace Lx
open Lib

theorem escs_le (q : Bs) : q.length ≤ (escs q).length := by
  induction q with
  | nil => simp
  | cons c q ih =>
    rw [escs_cons, List.length_append, List.length_cons]
    have : 1 ≤ (esc1 c).length := by
      unfold esc1
      repeat' split
      all_goals simp
    omega
theorem escs_two (q : Bs) : (escs q).length ≤ 2 * q.length := by
  induction q with
  | nil => simp [escs]
  | cons c q ih =>
    rw [escs_cons, List.length_append, List.length_cons]
    have := esc1_len c
    omega
theorem own_le {t : Tok} (h : sound t = true) : t.2.2.1.length ≤ (tokText t).length := by
  obtain ⟨a, k, s, v⟩ := t
  by_cases h4 : k = 4
  · subst h4
    simp [sound] at h
    simp [h.1]
  · by_cases h5 : k = 5
    · subst h5
      rw [tokText_quote, quote]
      have := escs_le s
      simp; omega
    · rw [tokText_own h4 h5]; exact Nat.le_refl _
theorem join_one {t : Tok} (hs : sound t = true) (hl : (tokText t).length ≤ 65536) : join [t] = .inr (tokText t) := by
  have := own_le hs
  have e : joinW [t] 0 [] = some (tokText t) := by
    simp only [joinW, Nat.lt_irrefl, if_false, List.append_nil, List.length_nil, List.nil_append, Nat.zero_add]
    rw [if_neg (by omega), if_neg (by omega)]
  rw [join, if_neg (by simp [hs]), e]
  simp
theorem join_bad {t : Tok} (hs : sound t = false) : join [t] = .inl 1 := by rw [join, if_pos (by simp [hs])]
/-- tokens with one blank ahead of each. -/
def spaced (ts : List Tok) : Bs := ts.flatMap fun t => 32 :: tokText t
theorem joinW_is : ∀ (ts : List Tok) (i : Nat) (acc l : Bs), 0 < i → joinW ts i acc = some l → l = acc ++ spaced ts ∧ (acc.length ≤ 65536 → l.length ≤ 65536)
  | [], i, acc, l, _, h => by cases h; simp [spaced]
  | t :: r, i, acc, l, hi, h => by
    rw [joinW, if_pos hi] at h
    split at h
    · cases h
    · split at h
      · cases h
      · rename_i _ h2
        obtain ⟨h3, h4⟩ := joinW_is r (i + 1) _ l (by omega) h
        refine ⟨by rw [h3]; simp [spaced], fun _ => h4 (by omega)⟩
theorem join_is {ts : List Tok} {l : Bs} (h : join ts = .inr l) : ts.all sound = true ∧ ts.length ≤ 4096 ∧ l.length ≤ 65536 ∧ (match ts with | [] => l = [] | t :: r => l = tokText t ++ spaced r) := by
  unfold join at h
  split at h
  · cases h
  · rename_i hs
    split at h
    · cases h
    · rename_i l' hw
      split at h
      · cases h
      · cases h
        refine ⟨by simpa using hs, by omega, ?_⟩
        cases ts with
        | nil => cases hw; simp
        | cons t r =>
          simp only [joinW, Nat.lt_irrefl, if_false, List.append_nil, List.length_nil, List.nil_append, Nat.zero_add] at hw
          split at hw
          · cases hw
          · split at hw
            · cases hw
            · rename_i h2
              obtain ⟨h3, h4⟩ := joinW_is r 1 _ l (by omega) hw
              exact ⟨h4 (by omega), h3⟩
/-- A token, with blanks or remarks ahead of it, ahead of what lies. -/
theorem Lay.put {g r : Bs} {a : Nat} {t : Tok} {ts : List Tok} (hs : sound t = true) (hv : t.2.2.2 ≤ 9223372036854775807) (hr : Halt t.2.1 t.2.2.1 r) (hg : skip (g ++ (tokText t ++ r)) = g.length)
    (h : Lay r (a + g.length + (tokText t).length) ts) : Lay (g ++ (tokText t ++ r)) a ((a + g.length, t.2) :: ts) := by
  obtain ⟨h1, h2, h3⟩ := sound_cut hs hv hr
  have e : (g ++ (tokText t ++ r)).drop (skip (g ++ (tokText t ++ r))) = tokText t ++ r := by rw [hg, List.drop_left' rfl]
  have e2 : (g ++ (tokText t ++ r)).drop (skip (g ++ (tokText t ++ r)) + (tokText t).length) = r := by
    rw [hg, ← List.append_assoc, List.drop_left' (by simp)]
  have := Lay.tok (g ++ (tokText t ++ r)) a t.2.1 t.2.2.2 t.2.2.1 (tokText t).length ts (by rw [e]; simp [h1]) (by rw [e, hd_app _ h1]; exact h2) (by rw [e]; exact h3) (by rw [e2, hg]; exact h)
  rw [hg] at this
  exact this
/-- blanks and remarks that may stand ahead of a token. -/
def Gap (g : Bs) : Prop := g ≠ [] ∧ nameB (hd g) = false ∧ hd g ≠ 61 ∧ ∀ x, beginB (hd x) = true → skip (g ++ x) = g.length
/-- what may stand at the end. -/
def Tail (g : Bs) : Prop := (g = [] ∨ (nameB (hd g) = false ∧ hd g ≠ 61)) ∧ g.drop (skip g) = []
def mixed (gs : List (Bs × Tok)) : Bs := gs.flatMap fun p => p.1 ++ tokText p.2
theorem mixed_cons (p : Bs × Tok) (gs : List (Bs × Tok)) : mixed (p :: gs) = p.1 ++ tokText p.2 ++ mixed gs := by simp [mixed]
theorem halt_of {k : Int} {s r : Bs} (h : nameB (hd r) = false) (h2 : hd r ≠ 61) : Halt k s r := .inr ⟨fun _ => h, fun _ _ => h2⟩
theorem halt_mixed {k : Int} {s : Bs} {gs : List (Bs × Tok)} {tl : Bs} (hg : ∀ p ∈ gs, Gap p.1) (ht : Tail tl) : Halt k s (mixed gs ++ tl) := by
  cases gs with
  | nil =>
    rcases ht.1 with rfl | ⟨h1, h2⟩
    · exact .inl rfl
    · exact halt_of h1 h2
  | cons p gs =>
    obtain ⟨h1, h2, h3, _⟩ := hg p (by simp)
    have e : hd (mixed (p :: gs) ++ tl) = hd p.1 := by rw [mixed_cons, List.append_assoc, List.append_assoc, hd_app _ h1]
    exact halt_of (by rw [e]; exact h2) (by rw [e]; exact h3)
theorem Lay.mixed : ∀ (gs : List (Bs × Tok)) (tl : Bs) (a : Nat), (∀ p ∈ gs, Gap p.1) → (∀ p ∈ gs, sound p.2 = true ∧ p.2.2.2.2 ≤ 9223372036854775807) → Tail tl →
    ∃ us, Lay (mixed gs ++ tl) a us ∧ us.map (·.2) = gs.map (·.2.2)
  | [], tl, a, _, _, ht => ⟨[], .done _ _ ht.2, rfl⟩
  | p :: gs, tl, a, hg, hs, ht => by
    obtain ⟨us, h1, h2⟩ := Lay.mixed gs tl (a + p.1.length + (tokText p.2).length) (fun q hq => hg q (by simp [hq])) (fun q hq => hs q (by simp [hq])) ht
    obtain ⟨hp1, hp2⟩ := hs p (by simp)
    obtain ⟨_, _, _, hsk⟩ := hg p (by simp)
    have hh : Halt p.2.2.1 p.2.2.2.1 (Lx.mixed gs ++ tl) := halt_mixed (fun q hq => hg q (by simp [hq])) ht
    obtain ⟨hne, hb, _⟩ := sound_cut hp1 hp2 hh
    refine ⟨(a + p.1.length, p.2.2) :: us, ?_, by simp [h2]⟩
    have := Lay.put (g := p.1) (a := a) hp1 hp2 hh (hsk _ (by rw [hd_app _ hne]; exact hb)) h1
    rw [mixed_cons, List.append_assoc, List.append_assoc]
    exact this
theorem gap_blank : Gap [32] := by
  refine ⟨by simp, by decide, by decide, fun x hx => ?_⟩
  show skip (32 :: x) = 1
  rw [skip_blank _ _ (by decide), (begin_skip hx).1]
theorem spaced_mixed (ts : List Tok) : spaced ts = mixed (ts.map fun t => ([32], t)) := by
  induction ts with
  | nil => rfl
  | cons t r ih => simp [spaced, mixed] at ih ⊢; exact ih
/-- What Join writes is cut into the same tokens. -/
theorem join_lex {ts : List Tok} {l : Bs} (h : join ts = .inr l) (hv : ∀ t ∈ ts, t.2.2.2 ≤ 9223372036854775807) : ∃ us, lex l = (us, none) ∧ us.map (·.2) = ts.map (·.2) := by
  obtain ⟨h1, h2, h3, h4⟩ := join_is h
  rw [List.all_eq_true] at h1
  have key : ∃ us, Lay l 0 us ∧ us.map (·.2) = ts.map (·.2) := by
    cases ts with
    | nil =>
      simp only at h4
      subst h4
      exact ⟨[], .done _ _ (by simp), rfl⟩
    | cons t r =>
      simp only at h4
      subst h4
      have htl : Tail [] := ⟨.inl rfl, by simp⟩
      have hg : ∀ p ∈ r.map (fun t => (([32], t) : Bs × Tok)), Gap p.1 := by
        intro p hp
        obtain ⟨t, _, rfl⟩ := List.mem_map.1 hp
        exact gap_blank
      obtain ⟨us, q1, q2⟩ := Lay.mixed (r.map fun t => ([32], t)) [] (0 + ([] : Bs).length + (tokText t).length) hg (by
        intro p hp
        obtain ⟨t, ht, rfl⟩ := List.mem_map.1 hp
        exact ⟨h1 t (by simp [ht]), hv t (by simp [ht])⟩) htl
      have hh : Halt t.2.1 t.2.2.1 (mixed (r.map fun t => ([32], t)) ++ []) := halt_mixed hg htl
      obtain ⟨hne, hb, _⟩ := sound_cut (h1 t (by simp)) (hv t (by simp)) hh
      have := Lay.put (g := []) (a := 0) (h1 t (by simp)) (hv t (by simp)) hh (by rw [List.nil_append]; exact (begin_skip (by rw [hd_app _ hne]; exact hb)).1) q1
      refine ⟨_, by rw [spaced_mixed]; simpa using this, ?_⟩
      simp [q2, Function.comp_def]
  obtain ⟨us, q1, q2⟩ := key
  refine ⟨us, lex_of h3 q1 ?_, q2⟩
  have := congrArg List.length q2
  simp at this; omega

theorem head_bad {a b : Bs} {x : List Tok} (hx : lex a = (x, none)) (hl : a.length + b.length + 1 ≤ 65536) (hb : (lex b).2 ≠ none) : (lex (a ++ 10 :: b)).2 ≠ none := by
  intro h
  obtain ⟨_, h2, _⟩ := lex_ok hx
  obtain ⟨_, h4, h5⟩ := lex_ok' h
  obtain ⟨z, hz⟩ := h2.nl_back h4
  obtain ⟨z0, hz0, hzl⟩ := hz.at 0
  have := (h2.nl hz).unique _ h4
  have hlen := congrArg List.length this
  rw [List.length_append] at hlen
  exact hb (by rw [lex_of (by omega) hz0 (by omega)])
theorem head_many {a b : Bs} {x z : List Tok} (hx : lex a = (x, none)) (hz : lex b = (z, none)) (hn : 4096 < x.length + z.length) : (lex (a ++ 10 :: b)).2 ≠ none := by
  intro h
  obtain ⟨_, h2, _⟩ := lex_ok hx
  obtain ⟨_, h4, h5⟩ := lex_ok' h
  obtain ⟨_, h6, _⟩ := lex_ok hz
  have := (h2.nl (by have := h6.shift (a.length + 1); rwa [show 0 + (a.length + 1) = 0 + a.length + 1 from by omega] at this)).unique _ h4
  have hlen := congrArg List.length this
  simp only [List.length_append, further, List.length_map] at hlen
  omega
theorem head_good {a b : Bs} {x z : List Tok} (hx : lex a = (x, none)) (hz : lex b = (z, none)) (hl : a.length + b.length + 1 ≤ 65536) (hn : x.length + z.length ≤ 4096) : lex (a ++ 10 :: b) = (x ++ further (a.length + 1) z, none) := by
  obtain ⟨_, h2, _⟩ := lex_ok hx
  obtain ⟨_, h6, _⟩ := lex_ok hz
  refine lex_of (by simp; omega) (h2.nl (by have := h6.shift (a.length + 1); rwa [show 0 + (a.length + 1) = 0 + a.length + 1 from by omega] at this)) (by simp [further]; omega)
end Lx
end Go.Proofs.YthplgkkailieoaaGreatDoor
