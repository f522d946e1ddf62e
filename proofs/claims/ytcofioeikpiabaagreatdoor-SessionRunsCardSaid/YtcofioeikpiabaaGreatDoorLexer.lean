/-
  Plain laws on the lexer's function: from a place behind blanks on; how long a token is.
-/
import Derived.Test.YtcofioeikpiabaaGreatDoorSpec
namespace Go.Proofs.YtcofioeikpiabaaGreatDoor
namespace Lx

theorem textF_len : ∀ (f : Nat) (l : Bs), l.length ≤ f → ∀ (i : Nat) (acc s : Bs) (n : Nat), textF l i acc = .inr (s, n) → i < n ∧ n ≤ i + l.length
  | _, [], _, i, acc, s, n, h => by simp [textF] at h
  | 0, c :: r, hf, _, _, _, _, _ => by simp at hf
  | f + 1, c :: r, hf, i, acc, s, n, h => by
    have hf' : r.length ≤ f := by simpa using hf
    by_cases h34 : c = 34
    · subst h34
      have e : textF (34 :: r) i acc = .inr (acc, i + 1) := by cases r <;> simp [textF]
      rw [e] at h; simp at h; obtain ⟨_, rfl⟩ := h; simp
    · by_cases h92 : c = 92
      · subst h92
        match r, hf', h with
        | [], _, h => simp [textF] at h
        | d :: r', hf', h =>
          by_cases hd : escOk (d.toNat : Int) = true
          · have e : textF (92 :: d :: r') i acc = textF r' (i + 2) (acc ++ [(escB (d.toNat : Int)).toNat.toUInt8]) := by simp [textF, hd]
            rw [e] at h
            have := textF_len f r' (by simp at hf'; omega) _ _ _ _ h
            simp; omega
          · have e : textF (92 :: d :: r') i acc = .inl (i + 1) := by simp [textF, hd]
            rw [e] at h; cases h
      · by_cases hp : plainB (c.toNat : Int) = true
        · have e : textF (c :: r) i acc = textF r (i + 1) (acc ++ [c]) := by cases r <;> simp [textF, h34, h92, hp]
          rw [e] at h
          have := textF_len f r hf' _ _ _ _ h
          simp; omega
        · have e : textF (c :: r) i acc = .inl i := by cases r <;> simp [textF, h34, h92, hp]
          rw [e] at h; cases h

theorem cut_len {l : Bs} (h0 : l ≠ []) {k : Int} {s : Bs} {v : Int} {m : Nat} (h : cut l = .inr (k, s, v, m)) : 1 ≤ m ∧ m ≤ l.length := by
  obtain ⟨c, r, rfl⟩ := List.exists_cons_of_ne_nil h0
  unfold cut at h
  split at h
  · have hr := runLen_le digitB r
    unfold cutNumber at h
    split at h
    · cases h
    · split at h
      · cases h
      · simp at h; obtain ⟨_, _, _, rfl⟩ := h; simp [digLen]; omega
  · split at h
    · unfold cutText at h
      split at h
      · cases h
      · rename_i s' n' ht
        simp at h; obtain ⟨_, _, _, rfl⟩ := h
        have := textF_len r.length r (Nat.le_refl _) _ _ _ _ ht
        simp; omega
    · split at h
      · unfold cutSign at h
        split at h
        · rename_i hp
          simp at h; obtain ⟨_, _, _, rfl⟩ := h
          cases r with
          | nil => simp [List.isPrefixOf] at hp
          | cons d r => simp
        · simp at h; obtain ⟨_, _, _, rfl⟩ := h; simp
      · have hr := runLen_le nameB r
        unfold cutName at h
        split at h
        · cases h
        · simp at h; obtain ⟨_, _, _, rfl⟩ := h; simp; omega
theorem next_len {l : Bs} {n : Nat} (h0 : l ≠ []) {k : Int} {s : Bs} {v : Int} {m : Nat} (h : next l n = .inr (k, s, v, m)) : 1 ≤ m ∧ m ≤ l.length := by
  unfold next at h
  split at h
  · cases h
  · split at h
    · cases h
    · exact cut_len h0 h
theorem next_few {l : Bs} {n : Nat} {k : Int} {s : Bs} {v : Int} {m : Nat} (h : next l n = .inr (k, s, v, m)) : n < 4096 := by
  unfold next at h
  split at h
  · cases h
  · split at h
    · cases h
    · omega

/-- from a place behind blanks on. -/
def lexAt (f : Nat) (l : Bs) (a n : Nat) : List Tok × Option (Nat × Nat) :=
  match f with
  | 0 => ([], none)
  | f + 1 => if l = [] then ([], none) else
    match next l n with
    | .inl (o, y) => ([], some (a + o, y))
    | .inr (k, s, v, m) => ((a, k, s, v) :: (lexF f (l.drop m) (a + m) (n + 1)).1, (lexF f (l.drop m) (a + m) (n + 1)).2)
theorem lexF_at (f : Nat) (l : Bs) (a n : Nat) : lexF f l a n = lexAt f (l.drop (skip l)) (a + skip l) n := by
  cases f with
  | zero => rfl
  | succ f =>
    by_cases h : l.drop (skip l) = []
    · simp only [lexF, lexAt, h, if_true]
    · rcases hn : next (l.drop (skip l)) n with ⟨o, y⟩ | ⟨k, s, v, m⟩
      · simp only [lexF, lexAt, h, if_false, hn]
      · simp only [lexF, lexAt, h, if_false, hn, List.drop_drop]
theorem lexAt_nil (f a n : Nat) : lexAt f [] a n = ([], none) := by cases f <;> simp [lexAt]
theorem lexAt_no {f : Nat} {l : Bs} {a n o y : Nat} (h0 : l ≠ []) (h : next l n = .inl (o, y)) : lexAt (f + 1) l a n = ([], some (a + o, y)) := by simp [lexAt, h0, h]
theorem lexAt_yes {f : Nat} {l : Bs} {a n : Nat} {k : Int} {s : Bs} {v : Int} {m : Nat} (h0 : l ≠ []) (h : next l n = .inr (k, s, v, m)) :
    lexAt (f + 1) l a n = ((a, k, s, v) :: (lexAt f ((l.drop m).drop (skip (l.drop m))) (a + m + skip (l.drop m)) (n + 1)).1, (lexAt f ((l.drop m).drop (skip (l.drop m))) (a + m + skip (l.drop m)) (n + 1)).2) := by
  rw [← lexF_at]; simp only [lexAt, h0, if_false, h]
end Lx
end Go.Proofs.YtcofioeikpiabaaGreatDoor
