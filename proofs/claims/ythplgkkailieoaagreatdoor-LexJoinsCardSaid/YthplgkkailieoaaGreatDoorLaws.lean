/-
  Plain laws on tokens: a token that is cut is its own text, and a token's own text is cut into it again, whatever stands behind that does not go on with it. No program, no world.
-/
import Derived.Test.YthplgkkailieoaaGreatDoorJoin
namespace Go.Proofs.YthplgkkailieoaaGreatDoor
namespace Lx

/-- behind a token of that kind, with that text, nothing goes on with it. -/
def Halt (k : Int) (s r : Bs) : Prop := r = [] ∨ ((k = 1 ∨ k = 2 ∨ k = 3 ∨ k = 4 → nameB (hd r) = false) ∧ (k = 6 → s = [61] → hd r ≠ 61))
theorem or_map {a b c d : Prop} (h : a ∨ b) (f : a → c) (g : b → d) : c ∨ d := by
  rcases h with h | h
  · exact .inl (f h)
  · exact .inr (g h)
theorem hd_app {l : Bs} (r : Bs) (h : l ≠ []) : hd (l ++ r) = hd l := by cases l with
  | nil => exact absurd rfl h
  | cons c t => rfl
theorem run0 (p : Int → Bool) (r : Bs) (h : r = [] ∨ p (hd r) = false) : runLen p r = 0 := by
  cases r with
  | nil => rfl
  | cons c t => exact runLen_no p c t (h.resolve_left (by simp))
theorem run_stop (p : Int → Bool) : ∀ (l r : Bs), (r = [] ∨ p (hd r) = false) → runLen p (l.take (runLen p l) ++ r) = runLen p l
  | [], r, h => by simpa [runLen_nil] using run0 p r h
  | c :: t, r, h => by
    by_cases hc : p (c.toNat : Int) = true
    · rw [runLen_yes p c t hc, Nat.add_comm, List.take_succ_cons, List.cons_append, runLen_yes p c _ hc, run_stop p t r h, Nat.add_comm]
    · rw [runLen_no p c t ((Bool.not_eq_true _).mp hc)]; simpa using run0 p r h
theorem run_rest (p : Int → Bool) : ∀ (l : Bs), l.drop (runLen p l) = [] ∨ p (hd (l.drop (runLen p l))) = false
  | [] => .inl (by simp)
  | c :: t => by
    by_cases hc : p (c.toNat : Int) = true
    · rw [runLen_yes p c t hc, Nat.add_comm, List.drop_succ_cons]; exact run_rest p t
    · have hc := (Bool.not_eq_true _).mp hc
      rw [runLen_no p c t hc]; exact .inr hc
theorem run_all (p : Int → Bool) : ∀ (l : Bs), ∀ c ∈ l.take (runLen p l), p (c.toNat : Int) = true
  | [], c, h => by simp at h
  | d :: t, c, h => by
    by_cases hd : p (d.toNat : Int) = true
    · rw [runLen_yes p d t hd, Nat.add_comm, List.take_succ_cons, List.mem_cons] at h
      rcases h with rfl | h
      · exact hd
      · exact run_all p t c h
    · rw [runLen_no p d t ((Bool.not_eq_true _).mp hd)] at h; simp at h
theorem run_of_all (p : Int → Bool) : ∀ (l : Bs), (∀ c ∈ l, p (c.toNat : Int) = true) → runLen p l = l.length
  | [], _ => rfl
  | c :: t, h => by rw [runLen_yes p c t (h c (by simp)), run_of_all p t (fun d hd => h d (by simp [hd])), List.length_cons]; omega
theorem take_take_app {n : Nat} {l : Bs} (r : Bs) (h : n ≤ l.length) : (l.take n ++ r).take n = l.take n := by
  rw [List.take_append_of_le_length (by simp; omega), List.take_take, Nat.min_self]
theorem drop_take_app {n : Nat} {l : Bs} (r : Bs) (h : n ≤ l.length) : (l.take n ++ r).drop n = r := by
  rw [List.drop_append_of_le_length (by simp; omega), List.drop_of_length_le (by simp; omega), List.nil_append]

theorem kind_of (s : Bs) : kindOf s = 1 ∨ kindOf s = 2 ∨ kindOf s = 3 := by
  unfold kindOf; repeat' split
  all_goals simp
theorem name_is {l : Bs} {k v : Int} {s : Bs} {m : Nat} (h : cutName l = .inr (k, s, v, m)) : m = 1 + runLen nameB l.tail ∧ m ≤ 32 ∧ k = kindOf s ∧ s = l.take m ∧ v = 0 := by
  unfold cutName at h
  split at h
  · cases h
  · cases h; exact ⟨rfl, by omega, rfl, rfl, rfl⟩
theorem name_again {c : UInt8} {t r : Bs} (hm : 1 + runLen nameB t ≤ 32) (hr : r = [] ∨ nameB (hd r) = false) :
    cutName ((c :: t).take (1 + runLen nameB t) ++ r) = .inr (kindOf ((c :: t).take (1 + runLen nameB t)), (c :: t).take (1 + runLen nameB t), 0, 1 + runLen nameB t) := by
  have e : (c :: t).take (1 + runLen nameB t) ++ r = c :: (t.take (runLen nameB t) ++ r) := by rw [Nat.add_comm, List.take_succ_cons]; rfl
  have hl := runLen_le nameB t
  have e2 : runLen nameB ((c :: t).take (1 + runLen nameB t) ++ r).tail = runLen nameB t := by rw [e]; exact run_stop nameB t r hr
  have e3 : ((c :: t).take (1 + runLen nameB t) ++ r).take (1 + runLen nameB t) = (c :: t).take (1 + runLen nameB t) := take_take_app r (by simp; omega)
  unfold cutName
  rw [e2, e3, if_neg (by omega)]

theorem sign_is {l : Bs} {k v : Int} {s : Bs} {m : Nat} (hl : l ≠ []) (h : cutSign l = .inr (k, s, v, m)) : k = 6 ∧ v = 0 ∧ s = l.take m ∧ 1 ≤ m ∧ m ≤ l.length ∧ Halt k s (l.drop m) := by
  unfold cutSign at h
  split at h
  case isTrue hp =>
    cases h
    match l, hp with
    | [], hp => simp [List.isPrefixOf] at hp
    | [c], hp => simp [List.isPrefixOf] at hp
    | c :: d :: r, hp =>
      refine ⟨rfl, rfl, rfl, by omega, by simp, .inr ⟨by omega, fun _ h => ?_⟩⟩
      simp at h
  case isFalse hp =>
    cases h
    match l, hp with
    | [], _ => exact absurd rfl hl
    | c :: r, hp =>
      refine ⟨rfl, rfl, rfl, by omega, by simp, ?_⟩
      cases r with
      | nil => exact .inl rfl
      | cons d r =>
        refine .inr ⟨by omega, fun _ h e => hp ?_⟩
        have hc : c = 61 := by simpa using h
        have hd' : d = 61 := by
          have e' : (d.toNat : Int) = 61 := e
          exact UInt8.toNat_inj.mp (by simpa using (by omega : d.toNat = 61))
        subst hc hd'; simp [List.isPrefixOf]
theorem sign_again {l : Bs} {k v : Int} {s r : Bs} {m : Nat} (hl : l ≠ []) (h : cutSign l = .inr (k, s, v, m)) (hr : Halt k s r) : cutSign (l.take m ++ r) = .inr (k, s, v, m) := by
  unfold cutSign at h
  split at h
  case isTrue hp =>
    cases h
    match l, hp with
    | [], hp => simp [List.isPrefixOf] at hp
    | [c], hp => simp [List.isPrefixOf] at hp
    | c :: d :: t, hp =>
      simp [List.isPrefixOf] at hp
      obtain ⟨rfl, rfl⟩ := hp
      simp [cutSign, List.isPrefixOf]
  case isFalse hp =>
    cases h
    match l, hp with
    | [], _ => exact absurd rfl hl
    | c :: t, hp =>
      have : [61, 61].isPrefixOf (c :: r) = false := by
        cases r with
        | nil => simp [List.isPrefixOf]
        | cons d r =>
          rcases hr with hr | hr
          · cases hr
          · rw [Bool.eq_false_iff]
            intro hq
            simp [List.isPrefixOf] at hq
            obtain ⟨rfl, rfl⟩ := hq
            exact hr.2 rfl rfl rfl
      show cutSign (c :: r) = _
      unfold cutSign
      rw [if_neg (by rw [this]; decide)]; simp

theorem sayB_esc {d : UInt8} (h : escOk (d.toNat : Int) = true) : ∃ c : UInt8, sayB c = true ∧ esc1 c = [92, d] ∧ (escB (d.toNat : Int)).toNat.toUInt8 = c := by
  have : d = 110 ∨ d = 34 ∨ d = 92 := by
    simp [escOk] at h
    rcases h with (h | h) | h
    · exact .inl (UInt8.toNat_inj.mp (by simpa using (by omega : d.toNat = 110)))
    · exact .inr (.inl (UInt8.toNat_inj.mp (by simpa using (by omega : d.toNat = 34))))
    · exact .inr (.inr (UInt8.toNat_inj.mp (by simpa using (by omega : d.toNat = 92))))
  rcases this with rfl | rfl | rfl
  · exact ⟨10, by decide, by decide, by decide⟩
  · exact ⟨34, by decide, by decide, by decide⟩
  · exact ⟨92, by decide, by decide, by decide⟩
theorem text_end (r : Bs) (i : Nat) (acc : Bs) : textF (34 :: r) i acc = .inr (acc, i + 1) := by rw [textF.eq_def]; rfl
theorem text_esc (d : UInt8) (r : Bs) (i : Nat) (acc : Bs) (h : escOk (d.toNat : Int) = true) : textF (92 :: d :: r) i acc = textF r (i + 2) (acc ++ [(escB (d.toNat : Int)).toNat.toUInt8]) := by
  rw [textF.eq_def]
  simp only
  rw [if_neg (by decide), if_pos trivial, if_pos h]
theorem text_plain (c : UInt8) (r : Bs) (i : Nat) (acc : Bs) (h34 : c ≠ 34) (h92 : c ≠ 92) (h : plainB (c.toNat : Int) = true) : textF (c :: r) i acc = textF r (i + 1) (acc ++ [c]) := by
  rw [textF.eq_def]
  simp only
  rw [if_neg h34, if_neg h92, if_pos h]
theorem text_is : ∀ (l : Bs) (i : Nat) (acc s : Bs) (n : Nat), textF l i acc = .inr (s, n) → ∃ q r, s = acc ++ q ∧ sayable q = true ∧ l = escs q ++ 34 :: r ∧ n = i + (escs q).length + 1
  | [], i, acc, s, n, h => by rw [textF.eq_def] at h; cases h
  | [c], i, acc, s, n, h => by
    by_cases h34 : c = 34
    · subst h34; rw [text_end] at h; cases h; exact ⟨[], [], by simp, rfl, rfl, by simp [escs]⟩
    · by_cases h92 : c = 92
      · subst h92
        rw [textF.eq_def] at h
        simp only at h
        rw [if_neg (by decide), if_pos trivial] at h
        cases h
      · by_cases hp : plainB (c.toNat : Int) = true
        · rw [text_plain c _ _ _ h34 h92 hp, textF.eq_def] at h; cases h
        · rw [textF.eq_def] at h
          simp only at h
          rw [if_neg h34, if_neg h92, if_neg hp] at h
          cases h
  | c :: d :: r, i, acc, s, n, h => by
    have ih1 := text_is (d :: r)
    have ih2 := text_is r
    by_cases h34 : c = 34
    · subst h34; rw [text_end] at h; cases h; exact ⟨[], d :: r, by simp, rfl, rfl, by simp [escs]⟩
    · by_cases h92 : c = 92
      · subst h92
        by_cases hd : escOk (d.toNat : Int) = true
        · rw [text_esc _ _ _ _ hd] at h
          obtain ⟨q, r', h1, h2, h3, h4⟩ := ih2 _ _ _ _ h
          obtain ⟨c, hc1, hc2, hc3⟩ := sayB_esc hd
          refine ⟨c :: q, r', by rw [h1, hc3]; simp, by rw [sayable_cons, hc1, h2]; rfl, by rw [h3, escs_cons, hc2]; simp, by rw [h4, escs_cons, hc2]; simp; omega⟩
        · rw [textF.eq_def] at h
          simp only at h
          rw [if_neg (by decide), if_pos trivial, if_neg hd] at h
          cases h
      · by_cases hp : plainB (c.toNat : Int) = true
        · rw [text_plain c _ _ _ h34 h92 hp] at h
          obtain ⟨q, r', h1, h2, h3, h4⟩ := ih1 _ _ _ _ h
          have h10 : c ≠ 10 := by rintro rfl; revert hp; decide
          have he : esc1 c = [c] := by simp [esc1, h10, h34, h92]
          refine ⟨c :: q, r', by rw [h1]; simp, by rw [sayable_cons, h2, sayB, hp]; simp, by rw [h3, escs_cons, he]; simp, by rw [h4, escs_cons, he]; simp; omega⟩
        · rw [textF.eq_def] at h
          simp only at h
          rw [if_neg h34, if_neg h92, if_neg hp] at h
          cases h
theorem text_again : ∀ (q : Bs) (r : Bs) (i : Nat) (acc : Bs), sayable q = true → textF (escs q ++ 34 :: r) i acc = .inr (acc ++ q, i + (escs q).length + 1)
  | [], r, i, acc, _ => by simp [escs, text_end]
  | c :: q, r, i, acc, h => by
    rw [sayable_cons, Bool.and_eq_true] at h
    obtain ⟨h1, h2⟩ := h
    have ih := fun i acc => text_again q r i acc h2
    rw [escs_cons]
    by_cases h10 : c = 10
    · subst h10
      show textF (92 :: 110 :: (escs q ++ 34 :: r)) i acc = _
      rw [text_esc _ _ _ _ (by decide), ih]
      have : (escB ((110 : UInt8).toNat : Int)).toNat.toUInt8 = 10 := by decide
      rw [this]; simp [esc1]; omega
    · by_cases h34 : c = 34
      · subst h34
        show textF (92 :: 34 :: (escs q ++ 34 :: r)) i acc = _
        rw [text_esc _ _ _ _ (by decide), ih]
        have : (escB ((34 : UInt8).toNat : Int)).toNat.toUInt8 = 34 := by decide
        rw [this]; simp [esc1]; omega
      · by_cases h92 : c = 92
        · subst h92
          show textF (92 :: 92 :: (escs q ++ 34 :: r)) i acc = _
          rw [text_esc _ _ _ _ (by decide), ih]
          have : (escB ((92 : UInt8).toNat : Int)).toNat.toUInt8 = 92 := by decide
          rw [this]; simp [esc1]; omega
        · have he : esc1 c = [c] := by simp [esc1, h10, h34, h92]
          have hp : plainB (c.toNat : Int) = true := by simpa [sayB, h10] using h1
          rw [he]
          show textF (c :: (escs q ++ 34 :: r)) i acc = _
          rw [text_plain c _ _ _ h34 h92 hp, ih]
          simp; omega
end Lx
end Go.Proofs.YthplgkkailieoaaGreatDoor
