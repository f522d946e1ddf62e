/-
  How tokens lie in a text (Lay), against lexF; texts with a line's end between them; places.
-/
import Derived.Test.YthplgkkailieoaaGreatDoorLaws3
namespace Go.Proofs.YthplgkkailieoaaGreatDoor
namespace Lx
open Lib

def Lay : Bs → Nat → List Tok → Prop
  | l, _, [] => l.drop (skip l) = []
  | l, a, t :: ts => l.drop (skip l) ≠ [] ∧ beginB (hd (l.drop (skip l))) = true ∧ t.1 = a + skip l ∧ ∃ m, cut (l.drop (skip l)) = .inr (t.2.1, t.2.2.1, t.2.2.2, m) ∧ Lay (l.drop (skip l + m)) (a + skip l + m) ts
theorem Lay.done (l : Bs) (a : Nat) (h : l.drop (skip l) = []) : Lay l a [] := h
theorem Lay.tok (l : Bs) (a : Nat) (k v : Int) (s : Bs) (m : Nat) (ts : List Tok) (h0 : l.drop (skip l) ≠ []) (hb : beginB (hd (l.drop (skip l))) = true) (hc : cut (l.drop (skip l)) = .inr (k, s, v, m))
    (hl : Lay (l.drop (skip l + m)) (a + skip l + m) ts) : Lay l a ((a + skip l, k, s, v) :: ts) := ⟨h0, hb, rfl, m, hc, hl⟩
theorem Lay.back {l : Bs} {a : Nat} {ts : List Tok} (h : Lay l a ts) : (l.drop (skip l) = [] ∧ ts = []) ∨
    ∃ k v s m us, l.drop (skip l) ≠ [] ∧ beginB (hd (l.drop (skip l))) = true ∧ cut (l.drop (skip l)) = .inr (k, s, v, m) ∧ Lay (l.drop (skip l + m)) (a + skip l + m) us ∧ ts = (a + skip l, k, s, v) :: us := by
  cases ts with
  | nil => exact .inl ⟨h, rfl⟩
  | cons t us =>
    obtain ⟨p, k, s, v⟩ := t
    obtain ⟨h0, hb, he, m, hc, hl⟩ := h
    have he' : p = a + skip l := he
    subst he'
    exact .inr ⟨k, v, s, m, us, h0, hb, hc, hl, rfl⟩
theorem Lay.ind {motive : ∀ (l : Bs) (a : Nat) (ts : List Tok), Lay l a ts → Prop} (done : ∀ (l : Bs) (a : Nat) (h : l.drop (skip l) = []), motive l a [] (Lay.done l a h))
    (tok : ∀ (l : Bs) (a : Nat) (k v : Int) (s : Bs) (m : Nat) (ts : List Tok) (h0 : l.drop (skip l) ≠ []) (hb : beginB (hd (l.drop (skip l))) = true) (hc : cut (l.drop (skip l)) = .inr (k, s, v, m))
      (hl : Lay (l.drop (skip l + m)) (a + skip l + m) ts), motive _ _ ts hl → motive l a ((a + skip l, k, s, v) :: ts) (Lay.tok l a k v s m ts h0 hb hc hl)) :
    ∀ {l : Bs} {a : Nat} {ts : List Tok} (h : Lay l a ts), motive l a ts h := by
  intro l a ts
  induction ts generalizing l a with
  | nil => exact fun h => done l a h
  | cons t us ih =>
    intro h
    obtain ⟨p, k, s, v⟩ := t
    have h' := h
    obtain ⟨h0, hb, he, m, hc, hl⟩ := h'
    have he' : p = a + skip l := he
    subst he'
    exact tok l a k v s m us h0 hb hc hl (ih hl)

theorem cut_size {l : Bs} {k v : Int} {s : Bs} {m : Nat} (h0 : l ≠ []) (hb : beginB (hd l) = true) (h : cut l = .inr (k, s, v, m)) : 1 ≤ m ∧ m ≤ l.length := by
  obtain ⟨r, h1, h2, _, _, _, h3, _⟩ := cut_is h0 hb h
  refine ⟨h3, ?_⟩
  rw [h1, List.length_append]; omega
theorem lexF_of_lay {l : Bs} {a : Nat} {ts : List Tok} (h : Lay l a ts) : ∀ f n, l.length < f → n + ts.length ≤ 4096 → lexF f l a n = (ts, none) := by
  induction h using Lay.ind with
  | done l a h =>
    intro f n hf _
    obtain ⟨f, rfl⟩ : ∃ g, f = g + 1 := ⟨f - 1, by omega⟩
    rw [lexF, if_pos h]
  | tok l a k v s m ts h0 hb hc hl ih =>
    intro f n hf hn
    obtain ⟨f, rfl⟩ : ∃ g, f = g + 1 := ⟨f - 1, by omega⟩
    obtain ⟨hm1, hm2⟩ := cut_size h0 hb hc
    simp only [List.length_cons] at hn
    rw [lexF, if_neg h0, next, if_neg (by rw [hb]; decide), if_neg (by omega), hc]
    simp only
    rw [ih f (n + 1) (by simp at hm2 ⊢; omega) (by omega)]
theorem lay_of_lexF : ∀ (f : Nat) (l : Bs) (a n : Nat) (ts : List Tok), lexF f l a n = (ts, none) → l.length < f → Lay l a ts ∧ (ts = [] ∨ n + ts.length ≤ 4096)
  | 0, l, a, n, ts, _, hf => by omega
  | f + 1, l, a, n, ts, h, hf => by
    rw [lexF] at h
    split at h
    · rename_i h0
      cases h
      exact ⟨.done l a h0, .inl rfl⟩
    · rename_i h0
      split at h
      · cases h
      · rename_i k s v m hnx
        have hb : beginB (hd (l.drop (skip l))) = true := by
          rcases Bool.eq_false_or_eq_true (beginB (hd (l.drop (skip l)))) with e | e
          · exact e
          · rw [next, if_pos e] at hnx; cases hnx
        rw [next, if_neg (by rw [hb]; decide)] at hnx
        split at hnx
        · cases hnx
        · rename_i hn
          obtain ⟨hm1, hm2⟩ := cut_size h0 hb hnx
          generalize hr : lexF f (l.drop (skip l + m)) (a + skip l + m) (n + 1) = R at h
          obtain ⟨ts', e⟩ := R
          simp only [Prod.mk.injEq] at h
          obtain ⟨rfl, rfl⟩ := h
          obtain ⟨h1, h2⟩ := lay_of_lexF f _ _ _ _ hr (by simp at hm2 ⊢; omega)
          refine ⟨.tok l a k v s m ts' h0 hb hnx h1, .inr ?_⟩
          rcases h2 with rfl | h2
          · simp; omega
          · simp; omega
theorem lex_ok {l : Bs} {ts : List Tok} (h : lex l = (ts, none)) : l.length ≤ 65536 ∧ Lay l 0 ts ∧ ts.length ≤ 4096 := by
  unfold lex at h
  split at h
  · cases h
  · rename_i hl
    obtain ⟨h1, h2⟩ := lay_of_lexF _ _ _ _ _ h (by omega)
    refine ⟨by omega, h1, ?_⟩
    rcases h2 with rfl | h2
    · simp
    · omega
theorem lex_of {l : Bs} {ts : List Tok} (hl : l.length ≤ 65536) (h : Lay l 0 ts) (hn : ts.length ≤ 4096) : lex l = (ts, none) := by
  rw [lex, if_neg (by omega)]
  exact lexF_of_lay h _ _ (by omega) (by omega)
theorem lex_ok' {l : Bs} (h : (lex l).2 = none) : l.length ≤ 65536 ∧ Lay l 0 (lex l).1 ∧ (lex l).1.length ≤ 4096 := lex_ok (by rw [← h])
theorem Lay.unique {l : Bs} {a : Nat} {ts : List Tok} (h : Lay l a ts) : ∀ us, Lay l a us → ts = us := by
  induction h using Lay.ind with
  | done l a h =>
    intro us hu
    rcases hu.back with ⟨_, rfl⟩ | ⟨k, v, s, m, ts, h0, _⟩
    · rfl
    · exact absurd h h0
  | tok l a k v s m ts h0 hb hc hl ih =>
    intro us hu
    rcases hu.back with ⟨h, _⟩ | ⟨k', v', s', m', ts', _, _, hc', hl', rfl⟩
    · exact absurd h h0
    · rw [hc] at hc'
      cases hc'
      rw [ih _ hl']
/-- tokens further on. -/
def further (d : Nat) (ts : List Tok) : List Tok := ts.map fun t => (t.1 + d, t.2)
theorem Lay.shift {l : Bs} {a : Nat} {ts : List Tok} (h : Lay l a ts) (d : Nat) : Lay l (a + d) (further d ts) := by
  induction h using Lay.ind with
  | done l a h => exact .done l _ h
  | tok l a k v s m ts h0 hb hc hl ih =>
    have e : a + d + skip l = a + skip l + d := by omega
    have ih' : Lay (l.drop (skip l + m)) (a + d + skip l + m) (further d ts) := by rw [show a + d + skip l + m = a + skip l + m + d from by omega]; exact ih
    have := Lay.tok l (a + d) k v s m (further d ts) h0 hb hc ih'
    rw [e] at this
    exact this
theorem Lay.at {l : Bs} {a : Nat} {ts : List Tok} (h : Lay l a ts) : ∀ b, ∃ us, Lay l b us ∧ us.length = ts.length := by
  induction h using Lay.ind with
  | done l a h => exact fun b => ⟨[], .done l _ h, rfl⟩
  | tok l a k v s m ts h0 hb hc hl ih =>
    intro b
    obtain ⟨us, h1, h2⟩ := ih (b + skip l + m)
    exact ⟨_, .tok l b k v s m us h0 hb hc h1, by simp [h2]⟩
theorem Lay.all {l : Bs} {a : Nat} {ts : List Tok} (h : Lay l a ts) : ∀ t ∈ ts, sound t = true ∧ 0 ≤ t.2.2.2 ∧ t.2.2.2 ≤ 9223372036854775807 ∧ (tokText t).length ≤ l.length ∧ a ≤ t.1 ∧ t.1 < a + l.length := by
  induction h using Lay.ind with
  | done l a h => intro t ht; simp at ht
  | tok l a k v s m ts h0 hb hc hl ih =>
    obtain ⟨r, h1, h2, h3, h4, h5, h6, _⟩ := cut_is h0 hb hc
    obtain ⟨hm1, hm2⟩ := cut_size h0 hb hc
    intro t ht
    rw [List.length_drop] at hm2
    rcases List.mem_cons.1 ht with rfl | ht
    · refine ⟨h3, h4, h5, ?_, Nat.le_add_right _ _, ?_⟩
      · rw [tokText_place, ← h2]; omega
      · show a + skip l < _
        omega
    · obtain ⟨q1, q2, q3, q4, q5, q6⟩ := ih t ht
      rw [List.length_drop] at q4 q6
      exact ⟨q1, q2, q3, by omega, by omega, by omega⟩
theorem Lay.count {l : Bs} {a : Nat} {ts : List Tok} (h : Lay l a ts) : ts.length ≤ l.length := by
  induction h using Lay.ind with
  | done l a h => simp
  | tok l a k v s m ts h0 hb hc hl ih =>
    obtain ⟨hm1, hm2⟩ := cut_size h0 hb hc
    rw [List.length_drop] at hm2 ih
    rw [List.length_cons]; omega
/-- Places rise. -/
theorem Lay.rise {l : Bs} {a : Nat} {ts : List Tok} (h : Lay l a ts) : ∀ j t u, ts[j]? = some t → ts[j + 1]? = some u → t.1 < u.1 := by
  induction h using Lay.ind with
  | done l a h => intro j t u ht; simp at ht
  | tok l a k v s m ts h0 hb hc hl ih =>
    obtain ⟨hm1, hm2⟩ := cut_size h0 hb hc
    intro j t u ht hu
    rw [List.getElem?_cons_succ] at hu
    cases j with
    | zero =>
      rw [List.getElem?_cons_zero] at ht
      cases ht
      have := (hl.all u (List.mem_of_getElem? hu)).2.2.2.2.1
      show a + skip l < u.1
      omega
    | succ j => rw [List.getElem?_cons_succ] at ht; exact ih j t u ht hu

theorem skipN_more : ∀ (g : Bs) (f : Bool) (x : Bs), skipN f g < g.length → x.head? ≠ some 47 → skipN f (g ++ x) = skipN f g
  | [], f, x, h, _ => by simp at h
  | c :: r, true, x, h, hx => by
    have ih := fun f => skipN_more r f x
    show skipN true (c :: (r ++ x)) = _
    simp only [skipN, List.length_cons] at h ⊢
    by_cases hq : c = 10
    · simp only [if_pos hq] at h ⊢
      rw [ih false (by omega) hx]
    · simp only [if_neg hq] at h ⊢
      rw [ih true (by omega) hx]
  | c :: r, false, x, h, hx => by
    have ih := fun f => skipN_more r f x
    show skipN false (c :: (r ++ x)) = _
    simp only [skipN, List.length_cons] at h ⊢
    by_cases hq : blankB (c.toNat : Int) = true
    · simp only [if_pos hq] at h ⊢
      rw [ih false (by omega) hx]
    · simp only [if_neg hq] at h ⊢
      by_cases h2 : c = 47 ∧ r.head? = some 47
      · have h3 : c = 47 ∧ (r ++ x).head? = some 47 := by
          refine ⟨h2.1, ?_⟩
          cases r with
          | nil => simp at h2
          | cons d r => exact h2.2
        rw [if_pos h2] at h
        rw [if_pos h2, if_pos h3, ih true (by omega) hx]
      · have h3 : ¬ (c = 47 ∧ (r ++ x).head? = some 47) := by
          rintro ⟨e1, e2⟩
          cases r with
          | nil => exact hx (by simpa using e2)
          | cons d r => exact h2 ⟨e1, e2⟩
        rw [if_neg h2, if_neg h3]
theorem skipN_nl : ∀ (g : Bs) (f : Bool) (x : Bs), skipN f g = g.length → skipN f (g ++ 10 :: x) = g.length + 1 + skip x
  | [], true, x, _ => by simp [skipN, skip]
  | [], false, x, _ => by simp [skipN, skip, blankB]
  | c :: r, true, x, h => by
    have ih := fun f => skipN_nl r f x
    rw [List.cons_append, skipN]
    rw [skipN, List.length_cons] at h
    rw [List.length_cons]
    split at h
    · rw [if_pos (by assumption), ih false (by omega)]; omega
    · rw [if_neg (by assumption), ih true (by omega)]; omega
  | c :: r, false, x, h => by
    have ih := fun f => skipN_nl r f x
    rw [List.cons_append, skipN]
    rw [skipN, List.length_cons] at h
    rw [List.length_cons]
    split at h
    · rw [if_pos (by assumption), ih false (by omega)]; omega
    · rw [if_neg (by assumption)]
      split at h
      · rename_i h2
        have h3 : c = 47 ∧ (r ++ 10 :: x).head? = some 47 := by
          refine ⟨h2.1, ?_⟩
          cases r with
          | nil => simp at h2
          | cons d r => exact h2.2
        rw [if_pos h3, ih true (by omega)]; omega
      · omega
/-- what stands ahead of a place that is neither, is blanks and remarks by itself. -/
theorem skipN_front : ∀ (g : Bs) (f : Bool) (x : Bs), skipN f (g ++ x) = g.length → x.head? ≠ some 47 → skipN f g = g.length
  | [], f, x, _, _ => by cases f <;> simp [skipN]
  | c :: r, true, x, h, hx => by
    have ih := fun f => skipN_front r f x
    rw [List.cons_append, skipN, List.length_cons] at h
    rw [skipN, List.length_cons]
    split at h
    · rw [if_pos (by assumption), ih false (by omega) hx]; omega
    · rw [if_neg (by assumption), ih true (by omega) hx]; omega
  | c :: r, false, x, h, hx => by
    have ih := fun f => skipN_front r f x
    rw [List.cons_append, skipN, List.length_cons] at h
    rw [skipN, List.length_cons]
    split at h
    · rw [if_pos (by assumption), ih false (by omega) hx]; omega
    · rw [if_neg (by assumption)]
      split at h
      · rename_i h2
        have h3 : c = 47 ∧ r.head? = some 47 := by
          refine ⟨h2.1, ?_⟩
          cases r with
          | nil => exact absurd (by simpa using h2.2) hx
          | cons d r => exact h2.2
        rw [if_pos h3, ih true (by omega) hx]; omega
      · omega
theorem begin_skip {x : Bs} (h : beginB (hd x) = true) : skip x = 0 ∧ x.head? ≠ some 47 := by
  cases x with
  | nil => exact ⟨rfl, by simp⟩
  | cons c r =>
    have hc : beginB (c.toNat : Int) = true := h
    have h47 : c ≠ 47 := by rintro rfl; revert hc; decide
    have hb : blankB (c.toNat : Int) = false := by
      rw [Bool.eq_false_iff]
      intro hb
      simp only [blankB, Bool.or_eq_true, beq_iff_eq] at hb
      rcases hb with ((hb | hb) | hb) | hb <;> (rw [hb] at hc; revert hc; decide)
    refine ⟨?_, by simpa using h47⟩
    rw [skip, skipN, if_neg (by rw [hb]; decide), if_neg (fun h => h47 h.1)]
theorem skip_all {l : Bs} (h : l.drop (skip l) = []) : skip l = l.length := by
  have h1 := skip_le l
  have h2 : (l.drop (skip l)).length = 0 := by rw [h]; rfl
  rw [List.length_drop] at h2; omega
theorem skip_not {l : Bs} (h : l.drop (skip l) ≠ []) : skip l < l.length := by
  have h1 := skip_le l
  have h2 := List.length_pos_iff.2 h
  rw [List.length_drop] at h2; omega
theorem Lay.ahead {g b : Bs} {o : Nat} {z : List Tok} (hs : skip (g ++ b) = g.length + skip b) (h : Lay b (o + g.length) z) : Lay (g ++ b) o z := by
  rcases h.back with ⟨h1, rfl⟩ | ⟨k, v, s, m, ts, h0, hb, hc, hl, rfl⟩
  · exact .done _ _ (by rw [hs, List.drop_append]; simpa using h1)
  · have e : (g ++ b).drop (skip (g ++ b)) = b.drop (skip b) := by rw [hs, List.drop_append]; simp
    have e2 : (g ++ b).drop (skip (g ++ b) + m) = b.drop (skip b + m) := by rw [hs, Nat.add_assoc, List.drop_append]; simp
    have := Lay.tok (g ++ b) o k v s m ts (by rw [e]; exact h0) (by rw [e]; exact hb) (by rw [e]; exact hc) (by rw [e2, hs, ← Nat.add_assoc]; exact hl)
    rw [hs, ← Nat.add_assoc] at this
    exact this
theorem Lay.behind {g b : Bs} {o : Nat} {z : List Tok} (hs : skip (g ++ b) = g.length + skip b) (h : Lay (g ++ b) o z) : Lay b (o + g.length) z := by
  have e : (g ++ b).drop (skip (g ++ b)) = b.drop (skip b) := by rw [hs, List.drop_append]; simp
  rcases h.back with ⟨h1, rfl⟩ | ⟨k, v, s, m, ts, h0, hb, hc, hl, rfl⟩
  · exact .done _ _ (by rw [← e]; exact h1)
  · have e2 : (g ++ b).drop (skip (g ++ b) + m) = b.drop (skip b + m) := by rw [hs, Nat.add_assoc, List.drop_append]; simp
    rw [e2, hs, ← Nat.add_assoc] at hl
    rw [hs, ← Nat.add_assoc]
    exact .tok b _ k v s m ts (by rw [← e]; exact h0) (by rw [← e]; exact hb) (by rw [← e]; exact hc) hl
theorem Halt.more {k : Int} {s r : Bs} (h : Halt k s r) (c : UInt8) (x : Bs) (hc : nameB (c.toNat : Int) = false) (hc2 : (c.toNat : Int) ≠ 61) : Halt k s (r ++ c :: x) := by
  cases r with
  | nil => exact .inr ⟨fun _ => hc, fun _ _ => hc2⟩
  | cons d r => exact .inr (h.resolve_left (by simp))
/-- The cut at a place of a text with a line's end behind it. -/
theorem cut_nl {l : Bs} {k v : Int} {s : Bs} {m : Nat} (b : Bs) (h0 : l ≠ []) (hb : beginB (hd l) = true) (h : cut l = .inr (k, s, v, m)) : cut (l ++ 10 :: b) = .inr (k, s, v, m) := by
  obtain ⟨r, h1, h2, h3, h4, h5, h6, h7⟩ := cut_is h0 hb h
  rw [h1, List.append_assoc, h2]
  exact (sound_cut (t := (0, k, s, v)) h3 h5 (h7.more 10 b (by decide) (by decide))).2.2
theorem nl_skips {l : Bs} (b : Bs) (h : l.drop (skip l) ≠ []) : skip (l ++ 10 :: b) = skip l ∧ (l ++ 10 :: b).drop (skip l) = l.drop (skip l) ++ 10 :: b := by
  have hs := skip_not h
  exact ⟨skipN_more l false (10 :: b) hs (by simp), by rw [List.drop_append_of_le_length (by omega)]⟩
theorem Lay.nl {a : Bs} {o : Nat} {x : List Tok} (h : Lay a o x) {b : Bs} {z : List Tok} (hz : Lay b (o + a.length + 1) z) : Lay (a ++ 10 :: b) o (x ++ z) := by
  induction h using Lay.ind with
  | done l o h =>
    have e : skip (l ++ 10 :: b) = l.length + 1 + skip b := skipN_nl l false b (skip_all h)
    have e2 : l ++ 10 :: b = (l ++ [10]) ++ b := by simp
    rw [List.nil_append, e2]
    refine Lay.ahead (by rw [← e2, e]; simp) ?_
    have e4 : o + (l ++ [10] : Bs).length = o + l.length + 1 := by simp; omega
    rw [e4]
    exact hz
  | tok l o k v s m ts h0 hb hc hl ih =>
    obtain ⟨e1, e2⟩ := nl_skips b h0
    obtain ⟨hm1, hm2⟩ := cut_size h0 hb hc
    have hsn := skip_not h0
    rw [List.length_drop] at hm2
    have e3 : (l ++ 10 :: b).drop (skip (l ++ 10 :: b) + m) = l.drop (skip l + m) ++ 10 :: b := by rw [e1, List.drop_append_of_le_length (by omega)]
    have hz' : Lay b (o + skip l + m + (l.drop (skip l + m)).length + 1) z := by
      rw [List.length_drop, show o + skip l + m + (l.length - (skip l + m)) + 1 = o + l.length + 1 from by omega]; exact hz
    have := Lay.tok (l ++ 10 :: b) o k v s m (ts ++ z) (by rw [e1, e2]; simp) (by rw [e1, e2, hd_app _ h0]; exact hb) (by rw [e1, e2]; exact cut_nl b h0 hb hc) (by rw [e3, e1]; exact ih hz')
    rw [e1] at this
    exact this
theorem Lay.nl_back {a : Bs} {o : Nat} {x : List Tok} (h : Lay a o x) {b : Bs} : ∀ {y : List Tok}, Lay (a ++ 10 :: b) o y → ∃ z, Lay b (o + a.length + 1) z := by
  induction h using Lay.ind with
  | done l o h =>
    intro y hy
    have e : skip (l ++ 10 :: b) = l.length + 1 + skip b := skipN_nl l false b (skip_all h)
    have e2 : l ++ 10 :: b = (l ++ [10]) ++ b := by simp
    rw [e2] at hy
    have := Lay.behind (by rw [← e2, e]; simp) hy
    have e4 : o + (l ++ [10] : Bs).length = o + l.length + 1 := by simp; omega
    rw [e4] at this
    exact ⟨y, this⟩
  | tok l o k v s m ts h0 hb hc hl ih =>
    intro y hy
    obtain ⟨e1, e2⟩ := nl_skips b h0
    obtain ⟨hm1, hm2⟩ := cut_size h0 hb hc
    have hsn := skip_not h0
    rw [List.length_drop] at hm2
    have e3 : (l ++ 10 :: b).drop (skip (l ++ 10 :: b) + m) = l.drop (skip l + m) ++ 10 :: b := by rw [e1, List.drop_append_of_le_length (by omega)]
    rcases hy.back with ⟨h, _⟩ | ⟨k', v', s', m', ts', h0', hb', hc', hl', rfl⟩
    · rw [e1, e2] at h; simp at h
    · rw [e1, e2, cut_nl b h0 hb hc] at hc'
      cases hc'
      rw [e3, e1] at hl'
      obtain ⟨z, hz⟩ := ih hl'
      refine ⟨z, ?_⟩
      rw [List.length_drop, show o + skip l + m + (l.length - (skip l + m)) + 1 = o + l.length + 1 from by omega] at hz
      exact hz
end Lx
end Go.Proofs.YthplgkkailieoaaGreatDoor
