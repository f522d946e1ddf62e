/-
  Plain laws on bytes and tokens: what is cut is its own text, how tokens lie in a text, what is joined is cut into the same.
-/
import Derived.Test.YtmpbbmfbgcpplaaGreatDoorQLexC
namespace Go.Proofs.YtmpbbmfbgcpplaaGreatDoor
namespace Lx

/-- behind a token of that kind, with that text, nothing goes on with it. -/
def Halt (k : Int) (s r : Bs) : Prop := r = [] ∨ ((k = 1 ∨ k = 2 ∨ k = 3 ∨ k = 4 → nameB (hd r) = false) ∧ (k = 6 → s = [61] → hd r ≠ 61))
theorem or_map {a b c d : Prop} (h : a ∨ b) (f : a → c) (g : b → d) : c ∨ d := by
  rcases h with h | h
  · exact .inl (f h)
  · exact .inr (g h)
theorem hd_app {l : Bs} (r : Bs) (h : l ≠ []) : hd (l ++ r) = hd l := by cases l with
  | nil => exact absurd rfl h
  | cons c t => rfl
theorem run0 (p : Int → Bool) (r : Bs) (h : r = [] ∨ p (hd r) = false) : runLen p r = 0 := by
  cases r with
  | nil => rfl
  | cons c t => exact runLen_no p c t (h.resolve_left (by simp))
theorem run_stop (p : Int → Bool) : ∀ (l r : Bs), (r = [] ∨ p (hd r) = false) → runLen p (l.take (runLen p l) ++ r) = runLen p l
  | [], r, h => by simpa [runLen_nil] using run0 p r h
  | c :: t, r, h => by
    by_cases hc : p (c.toNat : Int) = true
    · rw [runLen_yes p c t hc, Nat.add_comm, List.take_succ_cons, List.cons_append, runLen_yes p c _ hc, run_stop p t r h, Nat.add_comm]
    · rw [runLen_no p c t ((Bool.not_eq_true _).mp hc)]; simpa using run0 p r h
theorem run_rest (p : Int → Bool) : ∀ (l : Bs), l.drop (runLen p l) = [] ∨ p (hd (l.drop (runLen p l))) = false
  | [] => .inl (by simp)
  | c :: t => by
    by_cases hc : p (c.toNat : Int) = true
    · rw [runLen_yes p c t hc, Nat.add_comm, List.drop_succ_cons]; exact run_rest p t
    · have hc := (Bool.not_eq_true _).mp hc
      rw [runLen_no p c t hc]; exact .inr hc
theorem run_all (p : Int → Bool) : ∀ (l : Bs), ∀ c ∈ l.take (runLen p l), p (c.toNat : Int) = true
  | [], c, h => by simp at h
  | d :: t, c, h => by
    by_cases hd : p (d.toNat : Int) = true
    · rw [runLen_yes p d t hd, Nat.add_comm, List.take_succ_cons, List.mem_cons] at h
      rcases h with rfl | h
      · exact hd
      · exact run_all p t c h
    · rw [runLen_no p d t ((Bool.not_eq_true _).mp hd)] at h; simp at h
theorem run_of_all (p : Int → Bool) : ∀ (l : Bs), (∀ c ∈ l, p (c.toNat : Int) = true) → runLen p l = l.length
  | [], _ => rfl
  | c :: t, h => by rw [runLen_yes p c t (h c (by simp)), run_of_all p t (fun d hd => h d (by simp [hd])), List.length_cons]; omega
theorem take_take_app {n : Nat} {l : Bs} (r : Bs) (h : n ≤ l.length) : (l.take n ++ r).take n = l.take n := by
  rw [List.take_append_of_le_length (by simp; omega), List.take_take, Nat.min_self]
theorem kind_of (s : Bs) : kindOf s = 1 ∨ kindOf s = 2 ∨ kindOf s = 3 := by
  unfold kindOf; repeat' split
  all_goals simp
theorem name_is {l : Bs} {k v : Int} {s : Bs} {m : Nat} (h : cutName l = .inr (k, s, v, m)) : m = 1 + runLen nameB l.tail ∧ m ≤ 32 ∧ k = kindOf s ∧ s = l.take m ∧ v = 0 := by
  unfold cutName at h
  split at h
  · cases h
  · cases h; exact ⟨rfl, by omega, rfl, rfl, rfl⟩
theorem name_again {c : UInt8} {t r : Bs} (hm : 1 + runLen nameB t ≤ 32) (hr : r = [] ∨ nameB (hd r) = false) :
    cutName ((c :: t).take (1 + runLen nameB t) ++ r) = .inr (kindOf ((c :: t).take (1 + runLen nameB t)), (c :: t).take (1 + runLen nameB t), 0, 1 + runLen nameB t) := by
  have e : (c :: t).take (1 + runLen nameB t) ++ r = c :: (t.take (runLen nameB t) ++ r) := by rw [Nat.add_comm, List.take_succ_cons]; rfl
  have hl := runLen_le nameB t
  have e2 : runLen nameB ((c :: t).take (1 + runLen nameB t) ++ r).tail = runLen nameB t := by rw [e]; exact run_stop nameB t r hr
  have e3 : ((c :: t).take (1 + runLen nameB t) ++ r).take (1 + runLen nameB t) = (c :: t).take (1 + runLen nameB t) := take_take_app r (by simp; omega)
  unfold cutName
  rw [e2, e3, if_neg (by omega)]

theorem sign_is {l : Bs} {k v : Int} {s : Bs} {m : Nat} (hl : l ≠ []) (h : cutSign l = .inr (k, s, v, m)) : k = 6 ∧ v = 0 ∧ s = l.take m ∧ 1 ≤ m ∧ m ≤ l.length ∧ Halt k s (l.drop m) := by
  unfold cutSign at h
  split at h
  case isTrue hp =>
    cases h
    match l, hp with
    | [], hp => simp [List.isPrefixOf] at hp
    | [c], hp => simp [List.isPrefixOf] at hp
    | c :: d :: r, hp =>
      refine ⟨rfl, rfl, rfl, by omega, by simp, .inr ⟨by omega, fun _ h => ?_⟩⟩
      simp at h
  case isFalse hp =>
    cases h
    match l, hp with
    | [], _ => exact absurd rfl hl
    | c :: r, hp =>
      refine ⟨rfl, rfl, rfl, by omega, by simp, ?_⟩
      cases r with
      | nil => exact .inl rfl
      | cons d r =>
        refine .inr ⟨by omega, fun _ h e => hp ?_⟩
        have hc : c = 61 := by simpa using h
        have hd' : d = 61 := by
          have e' : (d.toNat : Int) = 61 := e
          exact UInt8.toNat_inj.mp (by simpa using (by omega : d.toNat = 61))
        subst hc hd'; simp [List.isPrefixOf]
theorem sign_again {l : Bs} {k v : Int} {s r : Bs} {m : Nat} (hl : l ≠ []) (h : cutSign l = .inr (k, s, v, m)) (hr : Halt k s r) : cutSign (l.take m ++ r) = .inr (k, s, v, m) := by
  unfold cutSign at h
  split at h
  case isTrue hp =>
    cases h
    match l, hp with
    | [], hp => simp [List.isPrefixOf] at hp
    | [c], hp => simp [List.isPrefixOf] at hp
    | c :: d :: t, hp =>
      simp [List.isPrefixOf] at hp
      obtain ⟨rfl, rfl⟩ := hp
      simp [cutSign, List.isPrefixOf]
  case isFalse hp =>
    cases h
    match l, hp with
    | [], _ => exact absurd rfl hl
    | c :: t, hp =>
      have : [61, 61].isPrefixOf (c :: r) = false := by
        cases r with
        | nil => simp [List.isPrefixOf]
        | cons d r =>
          rcases hr with hr | hr
          · cases hr
          · rw [Bool.eq_false_iff]
            intro hq
            simp [List.isPrefixOf] at hq
            obtain ⟨rfl, rfl⟩ := hq
            exact hr.2 rfl rfl rfl
      show cutSign (c :: r) = _
      unfold cutSign
      rw [if_neg (by rw [this]; decide)]; simp

theorem sayB_esc {d : UInt8} (h : escOk (d.toNat : Int) = true) : ∃ c : UInt8, sayB c = true ∧ esc1 c = [92, d] ∧ (escB (d.toNat : Int)).toNat.toUInt8 = c := by
  have : d = 110 ∨ d = 34 ∨ d = 92 := by
    simp [escOk] at h
    rcases h with (h | h) | h
    · exact .inl (UInt8.toNat_inj.mp (by simpa using (by omega : d.toNat = 110)))
    · exact .inr (.inl (UInt8.toNat_inj.mp (by simpa using (by omega : d.toNat = 34))))
    · exact .inr (.inr (UInt8.toNat_inj.mp (by simpa using (by omega : d.toNat = 92))))
  rcases this with rfl | rfl | rfl
  · exact ⟨10, by decide, by decide, by decide⟩
  · exact ⟨34, by decide, by decide, by decide⟩
  · exact ⟨92, by decide, by decide, by decide⟩
theorem text_end (r : Bs) (i : Nat) (acc : Bs) : textF (34 :: r) i acc = .inr (acc, i + 1) := by rw [textF.eq_def]; rfl
theorem text_esc (d : UInt8) (r : Bs) (i : Nat) (acc : Bs) (h : escOk (d.toNat : Int) = true) : textF (92 :: d :: r) i acc = textF r (i + 2) (acc ++ [(escB (d.toNat : Int)).toNat.toUInt8]) := by
  rw [textF.eq_def]
  simp only
  rw [if_neg (by decide), if_pos trivial, if_pos h]
theorem text_plain (c : UInt8) (r : Bs) (i : Nat) (acc : Bs) (h34 : c ≠ 34) (h92 : c ≠ 92) (h : plainB (c.toNat : Int) = true) : textF (c :: r) i acc = textF r (i + 1) (acc ++ [c]) := by
  rw [textF.eq_def]
  simp only
  rw [if_neg h34, if_neg h92, if_pos h]
theorem text_is : ∀ (l : Bs) (i : Nat) (acc s : Bs) (n : Nat), textF l i acc = .inr (s, n) → ∃ q r, s = acc ++ q ∧ sayable q = true ∧ l = escs q ++ 34 :: r ∧ n = i + (escs q).length + 1
  | [], i, acc, s, n, h => by rw [textF.eq_def] at h; cases h
  | [c], i, acc, s, n, h => by
    by_cases h34 : c = 34
    · subst h34; rw [text_end] at h; cases h; exact ⟨[], [], by simp, rfl, rfl, by simp [escs]⟩
    · by_cases h92 : c = 92
      · subst h92
        rw [textF.eq_def] at h
        simp only at h
        rw [if_neg (by decide), if_pos trivial] at h
        cases h
      · by_cases hp : plainB (c.toNat : Int) = true
        · rw [text_plain c _ _ _ h34 h92 hp, textF.eq_def] at h; cases h
        · rw [textF.eq_def] at h
          simp only at h
          rw [if_neg h34, if_neg h92, if_neg hp] at h
          cases h
  | c :: d :: r, i, acc, s, n, h => by
    have ih1 := text_is (d :: r)
    have ih2 := text_is r
    by_cases h34 : c = 34
    · subst h34; rw [text_end] at h; cases h; exact ⟨[], d :: r, by simp, rfl, rfl, by simp [escs]⟩
    · by_cases h92 : c = 92
      · subst h92
        by_cases hd : escOk (d.toNat : Int) = true
        · rw [text_esc _ _ _ _ hd] at h
          obtain ⟨q, r', h1, h2, h3, h4⟩ := ih2 _ _ _ _ h
          obtain ⟨c, hc1, hc2, hc3⟩ := sayB_esc hd
          refine ⟨c :: q, r', by rw [h1, hc3]; simp, by rw [sayable_cons, hc1, h2]; rfl, by rw [h3, escs_cons, hc2]; simp, by rw [h4, escs_cons, hc2]; simp; omega⟩
        · rw [textF.eq_def] at h
          simp only at h
          rw [if_neg (by decide), if_pos trivial, if_neg hd] at h
          cases h
      · by_cases hp : plainB (c.toNat : Int) = true
        · rw [text_plain c _ _ _ h34 h92 hp] at h
          obtain ⟨q, r', h1, h2, h3, h4⟩ := ih1 _ _ _ _ h
          have h10 : c ≠ 10 := by rintro rfl; revert hp; decide
          have he : esc1 c = [c] := by simp [esc1, h10, h34, h92]
          refine ⟨c :: q, r', by rw [h1]; simp, by rw [sayable_cons, h2, sayB, hp]; simp, by rw [h3, escs_cons, he]; simp, by rw [h4, escs_cons, he]; simp; omega⟩
        · rw [textF.eq_def] at h
          simp only at h
          rw [if_neg h34, if_neg h92, if_neg hp] at h
          cases h
theorem text_again : ∀ (q : Bs) (r : Bs) (i : Nat) (acc : Bs), sayable q = true → textF (escs q ++ 34 :: r) i acc = .inr (acc ++ q, i + (escs q).length + 1)
  | [], r, i, acc, _ => by simp [escs, text_end]
  | c :: q, r, i, acc, h => by
    rw [sayable_cons, Bool.and_eq_true] at h
    obtain ⟨h1, h2⟩ := h
    have ih := fun i acc => text_again q r i acc h2
    rw [escs_cons]
    by_cases h10 : c = 10
    · subst h10
      show textF (92 :: 110 :: (escs q ++ 34 :: r)) i acc = _
      rw [text_esc _ _ _ _ (by decide), ih]
      have : (escB ((110 : UInt8).toNat : Int)).toNat.toUInt8 = 10 := by decide
      rw [this]; simp [esc1]; omega
    · by_cases h34 : c = 34
      · subst h34
        show textF (92 :: 34 :: (escs q ++ 34 :: r)) i acc = _
        rw [text_esc _ _ _ _ (by decide), ih]
        have : (escB ((34 : UInt8).toNat : Int)).toNat.toUInt8 = 34 := by decide
        rw [this]; simp [esc1]; omega
      · by_cases h92 : c = 92
        · subst h92
          show textF (92 :: 92 :: (escs q ++ 34 :: r)) i acc = _
          rw [text_esc _ _ _ _ (by decide), ih]
          have : (escB ((92 : UInt8).toNat : Int)).toNat.toUInt8 = 92 := by decide
          rw [this]; simp [esc1]; omega
        · have he : esc1 c = [c] := by simp [esc1, h10, h34, h92]
          have hp : plainB (c.toNat : Int) = true := by simpa [sayB, h10] using h1
          rw [he]
          show textF (c :: (escs q ++ 34 :: r)) i acc = _
          rw [text_plain c _ _ _ h34 h92 hp, ih]
          simp; omega
end Lx
end Go.Proofs.YtmpbbmfbgcpplaaGreatDoor
namespace Go.Proofs.YtmpbbmfbgcpplaaGreatDoor
namespace Lx
open Lib

theorem fold_app : ∀ (a b : Bs) (n : Int), numFold (a ++ b) n = (numFold a n).bind fun m => numFold b m
  | [], b, n => rfl
  | c :: a, b, n => by
    show numFold (c :: (a ++ b)) n = _
    rw [numFold, numFold]
    split
    · rfl
    · exact fold_app a b _
theorem digit_toNat {d : Nat} (h : d < 10) : ((UInt8.ofNat (48 + d)).toNat : Int) - 48 = d := by
  rw [UInt8.toNat_ofNat']
  omega
theorem fold_dec (u : Nat) (h : u ≤ 9223372036854775807) : numFold (decDigits u) 0 = some (u : Int) := by
  induction u using Nat.strongRecOn with
  | _ u ih =>
    by_cases hu : u < 10
    · rw [decDigits, dif_pos hu]
      unfold numFold
      rw [digit_toNat hu, if_neg (by omega)]
      simp [numFold]
    · rw [decDigits, dif_neg hu, fold_app, ih (u / 10) (by omega) (by omega)]
      show numFold [UInt8.ofNat (48 + u % 10)] _ = _
      unfold numFold
      rw [digit_toNat (by omega), if_neg (by omega)]
      simp only [numFold]
      congr 1; omega
theorem dec_ne (u : Nat) : decDigits u ≠ [] := by
  rw [decDigits]; split <;> simp
theorem dec_digit (u : Nat) : ∀ c ∈ decDigits u, digitB (c.toNat : Int) = true := by
  induction u using Nat.strongRecOn with
  | _ u ih =>
    have one : ∀ d, d < 10 → digitB ((UInt8.ofNat (48 + d)).toNat : Int) = true := by
      intro d hd
      have := digit_toNat hd
      simp only [digitB, Bool.and_eq_true, decide_eq_true_eq]; omega
    intro c hc
    by_cases hu : u < 10
    · rw [decDigits, dif_pos hu] at hc
      rw [List.mem_singleton.1 hc]; exact one u hu
    · rw [decDigits, dif_neg hu] at hc
      rcases List.mem_append.1 hc with h | h
      · exact ih (u / 10) (by omega) c h
      · rw [List.mem_singleton.1 h]; exact one _ (by omega)
theorem dec_hd (u : Nat) (h : hd (decDigits u) = 48) : u = 0 := by
  induction u using Nat.strongRecOn with
  | _ u ih =>
    by_cases hu : u < 10
    · rw [decDigits, dif_pos hu] at h
      have e : ((UInt8.ofNat (48 + u)).toNat : Int) = 48 := h
      have := digit_toNat hu
      omega
    · rw [decDigits, dif_neg hu, hd_app _ (dec_ne _)] at h
      have := ih (u / 10) (by omega) h
      omega
theorem number_dec (u : Nat) (h : u ≤ 9223372036854775807) : number (decDigits u) = some (u : Int) := by
  unfold number
  rw [if_neg, fold_dec u h]
  rintro ⟨h1, h2⟩
  obtain rfl := dec_hd u h1
  rw [decDigits, dif_pos (by decide)] at h2
  simp at h2
theorem digit_bd {c : UInt8} (h : digitB (c.toNat : Int) = true) : ∃ d, d < 10 ∧ c = UInt8.ofNat (48 + d) ∧ (c.toNat : Int) - 48 = d := by
  simp only [digitB, Bool.and_eq_true, decide_eq_true_eq] at h
  refine ⟨c.toNat - 48, by omega, ?_, by omega⟩
  apply UInt8.toNat_inj.mp
  rw [UInt8.toNat_ofNat']; omega
theorem fold_is : ∀ (ds : Bs) (n : Nat) (v : Int), 1 ≤ n → n ≤ 9223372036854775807 → (∀ c ∈ ds, digitB (c.toNat : Int) = true) → numFold ds n = some v → ∃ u : Nat, v = u ∧ u ≤ 9223372036854775807 ∧ decDigits u = decDigits n ++ ds
  | [], n, v, _, h1, _, h => by cases h; exact ⟨n, rfl, h1, by simp⟩
  | c :: r, n, v, h0, h1, hd, h => by
    obtain ⟨d, hd1, hd2, hd3⟩ := digit_bd (hd c (by simp))
    unfold numFold at h
    rw [hd3] at h
    split at h
    · cases h
    · have e : ((n : Int) * 10 + (d : Int)) = ((n * 10 + d : Nat) : Int) := by omega
      rw [e] at h
      obtain ⟨u, h2, h3, h4⟩ := fold_is r (n * 10 + d) v (by omega) (by omega) (fun c hc => hd c (by simp [hc])) h
      refine ⟨u, h2, h3, ?_⟩
      rw [h4, decDigits, dif_neg (by omega), show (n * 10 + d) / 10 = n from by omega, show (n * 10 + d) % 10 = d from by omega, hd2]
      simp
theorem number_is (ds : Bs) (v : Int) (h0 : ds ≠ []) (hd : ∀ c ∈ ds, digitB (c.toNat : Int) = true) (h : number ds = some v) : ∃ u : Nat, v = u ∧ u ≤ 9223372036854775807 ∧ ds = decDigits u := by
  cases ds with
  | nil => exact absurd rfl h0
  | cons c r =>
    obtain ⟨d, hd1, hd2, hd3⟩ := digit_bd (hd c (by simp))
    unfold number at h
    split at h
    · cases h
    case isFalse hz =>
      unfold numFold at h
      rw [hd3] at h
      split at h
      · cases h
      · by_cases hd0 : d = 0
        · have hr : r = [] := by
            cases r with
            | nil => rfl
            | cons x y =>
              exfalso; apply hz
              refine ⟨?_, by simp⟩
              show (c.toNat : Int) = 48
              omega
          subst hr hd0
          rw [show numFold [] ((0 : Int) * 10 + ((0 : Nat) : Int)) = some 0 from rfl] at h
          cases h
          refine ⟨0, rfl, by omega, ?_⟩
          rw [decDigits, dif_pos (by decide), hd2]
        · have e : ((0 : Int) * 10 + (d : Int)) = ((d : Nat) : Int) := by omega
          rw [e] at h
          obtain ⟨u, h2, h3, h4⟩ := fold_is r d v (by omega) (by omega) (fun c hc => hd c (by simp [hc])) h
          refine ⟨u, h2, h3, ?_⟩
          rw [h4, decDigits, dif_pos hd1, hd2]; rfl
theorem digit_name {x : Int} (h : nameB x = false) : digitB x = false := by
  simp [nameB] at h; exact h.1.2
theorem num_is {c : UInt8} {t : Bs} {k v : Int} {s : Bs} {m : Nat} (hc : digitB (c.toNat : Int) = true) (h : cutNumber (c :: t) = .inr (k, s, v, m)) :
    k = 4 ∧ s = [] ∧ ∃ u : Nat, v = u ∧ u ≤ 9223372036854775807 ∧ (c :: t).take m = decDigits u ∧ m = (decDigits u).length ∧ m ≤ (c :: t).length ∧ ((c :: t).drop m = [] ∨ nameB (hd ((c :: t).drop m)) = false) := by
  unfold cutNumber at h
  have hlen : digLen (c :: t) ≤ (c :: t).length := by have := runLen_le digitB t; simp [digLen]; omega
  split at h
  · cases h
  · rename_i v' hn
    split at h
    · cases h
    · rename_i hz
      cases h
      have hall : ∀ x ∈ (c :: t).take (digLen (c :: t)), digitB (x.toNat : Int) = true := by
        intro x hx
        have e : digLen (c :: t) = runLen digitB t + 1 := by simp [digLen]; omega
        rw [e, List.take_succ_cons, List.mem_cons] at hx
        rcases hx with rfl | hx
        · exact hc
        · exact run_all digitB t x hx
      obtain ⟨u, h1, h2, h3⟩ := number_is _ _ (by simp [digLen]) hall hn
      refine ⟨rfl, rfl, u, h1, h2, h3, ?_, hlen, ?_⟩
      · rw [← h3]; simp; simp at hlen; omega
      · by_cases h0 : (c :: t).drop (digLen (c :: t)) = []
        · exact .inl h0
        · exact .inr ((Bool.not_eq_true _).mp fun h => hz ⟨h0, h⟩)
theorem num_again (u : Nat) (r : Bs) (h : u ≤ 9223372036854775807) (hr : r = [] ∨ nameB (hd r) = false) : cutNumber (decDigits u ++ r) = .inr (4, [], (u : Int), (decDigits u).length) := by
  obtain ⟨c, t, hct⟩ := List.exists_cons_of_ne_nil (dec_ne u)
  have hall := dec_digit u
  have hrd : r = [] ∨ digitB (hd r) = false := or_map hr id digit_name
  have hl : digLen (decDigits u ++ r) = (decDigits u).length := by
    rw [hct]
    show 1 + runLen digitB (t ++ r) = _
    have e : runLen digitB t = t.length := run_of_all digitB t fun x hx => hall x (by rw [hct]; simp [hx])
    have := run_stop digitB t r hrd
    rw [e, List.take_length] at this
    rw [this, List.length_cons]; omega
  unfold cutNumber
  rw [hl, List.take_left' rfl, number_dec u h]
  simp only
  rw [List.drop_left' rfl, if_neg]
  rintro ⟨h1, h2⟩
  rcases hr with rfl | hr
  · exact h1 rfl
  · rw [hr] at h2; cases h2
end Lx
end Go.Proofs.YtmpbbmfbgcpplaaGreatDoor
namespace Go.Proofs.YtmpbbmfbgcpplaaGreatDoor
namespace Lx
open Lib

theorem cut_digit {l : Bs} (h : digitB (hd l) = true) : cut l = cutNumber l := by rw [cut, if_pos h]
theorem cut_quote {l : Bs} (h : hd l = 34) : cut l = cutText l := by rw [cut, h, if_neg (by decide), if_pos rfl]
theorem cut_sign {l : Bs} (h1 : digitB (hd l) = false) (h2 : hd l ≠ 34) (h3 : signB (hd l) = true) : cut l = cutSign l := by
  rw [cut, if_neg (by rw [h1]; decide), if_neg h2, if_pos h3]
theorem cut_name {l : Bs} (h1 : digitB (hd l) = false) (h2 : hd l ≠ 34) (h3 : signB (hd l) = false) : cut l = cutName l := by
  rw [cut, if_neg (by rw [h1]; decide), if_neg h2, if_neg (by rw [h3]; decide)]
theorem tokText_own {t : Tok} (h4 : t.2.1 ≠ 4) (h5 : t.2.1 ≠ 5) : tokText t = t.2.2.1 := by rw [tokText, if_neg h4, if_neg h5]
theorem tokText_num {a : Nat} {s : Bs} (u : Nat) : tokText (a, 4, s, (u : Int)) = decDigits u := by
  rw [tokText, if_pos rfl, itoa, if_neg (by simp)]; rfl
theorem tokText_quote {a : Nat} {s : Bs} {v : Int} : tokText (a, 5, s, v) = quote s := by
  rw [tokText, if_neg (by simp), if_pos rfl]
theorem Halt.name {k : Int} {s r : Bs} (h : Halt k s r) (hk : k = 1 ∨ k = 2 ∨ k = 3 ∨ k = 4) : r = [] ∨ nameB (hd r) = false := or_map h id fun h => h.1 hk
theorem self_of {l s : Bs} {k v : Int} {m : Nat} (hb : beginB (hd l) = true) (h0 : l ≠ []) (h : cut l = .inr (k, s, v, m)) (hm : m = l.length) : cutsSelf k l = true := by
  cases l with
  | nil => exact absurd rfl h0
  | cons c t => simp [cutsSelf, hb, h, hm]
/-- What is cut is the token's own text, sound, and halted by what stands behind it. -/
theorem cut_is {l : Bs} {k v : Int} {s : Bs} {m : Nat} (h0 : l ≠ []) (hb : beginB (hd l) = true) (h : cut l = .inr (k, s, v, m)) :
    ∃ r, l = tokText (0, k, s, v) ++ r ∧ m = (tokText (0, k, s, v)).length ∧ sound (0, k, s, v) = true ∧ 0 ≤ v ∧ v ≤ 9223372036854775807 ∧ 1 ≤ m ∧ Halt k s r := by
  obtain ⟨c, t, rfl⟩ := List.exists_cons_of_ne_nil h0
  by_cases h1 : digitB (hd (c :: t)) = true
  · rw [cut_digit h1] at h
    obtain ⟨rfl, rfl, u, rfl, hu, h3, h4, h5, h6⟩ := num_is (c := c) h1 h
    rw [tokText_num]
    refine ⟨(c :: t).drop m, by rw [← h3, List.take_append_drop], h4, ?_, by omega, by omega, ?_, or_map h6 id fun h => ⟨fun _ => h, by omega⟩⟩
    · simp [sound]
    · have := List.length_pos_iff.2 (dec_ne u); omega
  · have h1 : digitB (hd (c :: t)) = false := (Bool.not_eq_true _).mp h1
    by_cases h2 : hd (c :: t) = 34
    · rw [cut_quote h2] at h
      unfold cutText at h
      split at h
      · cases h
      · rename_i s' n he
        cases h
        obtain ⟨q, r, e1, e2, e3, e4⟩ := text_is _ _ _ _ _ he
        simp only [List.nil_append] at e1
        subst e1
        have hc : c = 34 := UInt8.toNat_inj.mp (by have e : (c.toNat : Int) = 34 := h2; simpa using (by omega : c.toNat = 34))
        have e3' : t = escs s ++ 34 :: r := e3
        rw [tokText_quote]
        refine ⟨r, by rw [hc, e3', quote]; simp, by rw [quote]; simp; omega, by simp [sound, e2], by omega, by omega, by omega, .inr ⟨by omega, by omega⟩⟩
    · by_cases h3 : signB (hd (c :: t)) = true
      · rw [cut_sign h1 h2 h3] at h
        obtain ⟨rfl, rfl, hs, hm1, hm2, hh⟩ := sign_is h0 h
        rw [tokText_own (by simp) (by simp)]
        have hsl : s.length = m := by rw [hs]; simp at hm2 ⊢; omega
        have hss : s ≠ [] := fun e => by rw [e] at hsl; simp at hsl; omega
        have hhd : hd s = hd (c :: t) := by
          rw [hs]
          obtain ⟨j, rfl⟩ : ∃ j, m = j + 1 := ⟨m - 1, by omega⟩
          rfl
        have hself : cutsSelf 6 s = true := by
          have e := sign_again h0 h (.inl rfl : Halt 6 s [])
          rw [List.append_nil, ← hs] at e
          exact self_of (by rw [hhd]; exact hb) hss (by rw [cut_sign (by rw [hhd]; exact h1) (by rw [hhd]; exact h2) (by rw [hhd]; exact h3)]; exact e) hsl.symm
        refine ⟨(c :: t).drop m, ?_, hsl.symm, by simp [sound, hself], by omega, by omega, hm1, hh⟩
        have e := List.take_append_drop m (c :: t)
        rw [← hs] at e
        exact e.symm
      · have h3 : signB (hd (c :: t)) = false := (Bool.not_eq_true _).mp h3
        rw [cut_name h1 h2 h3] at h
        obtain ⟨rfl, hm, hk, hs, rfl⟩ := name_is h
        have hm' : 1 + runLen nameB t ≤ 32 := hm
        have hkk := kind_of s
        rw [← hk] at hkk
        rw [tokText_own (by show k ≠ 4; omega) (by show k ≠ 5; omega)]
        have hsl : s.length = 1 + runLen nameB t := by rw [hs]; have := runLen_le nameB t; simp; omega
        have hss : s ≠ [] := fun e => by rw [e] at hsl; simp at hsl; omega
        have hhd : hd s = hd (c :: t) := by
          rw [hs, show 1 + runLen nameB (c :: t).tail = runLen nameB t + 1 from by simp; omega]
          rfl
        have hself : cutsSelf k s = true := by
          have e := name_again (c := c) hm' (.inl rfl : ([] : Bs) = [] ∨ nameB (hd []) = false)
          have hs' : s = (c :: t).take (1 + runLen nameB t) := hs
          rw [List.append_nil, ← hs', ← hk] at e
          exact self_of (by rw [hhd]; exact hb) hss (by rw [cut_name (by rw [hhd]; exact h1) (by rw [hhd]; exact h2) (by rw [hhd]; exact h3)]; exact e) hsl.symm
        refine ⟨(c :: t).drop (1 + runLen nameB t), ?_, hsl.symm, ?_, by omega, by omega, by omega, ?_⟩
        · have e := List.take_append_drop (1 + runLen nameB t) (c :: t)
          have hs' : s = (c :: t).take (1 + runLen nameB t) := hs
          rw [← hs'] at e
          exact e.symm
        · have hk4 : k = 1 ∨ k = 2 ∨ k = 3 ∨ k = 6 := by omega
          simp [sound, hk4, hself]
        · have := run_rest nameB t
          rw [Nat.add_comm, List.drop_succ_cons]
          exact or_map this id fun h => ⟨fun _ => h, by omega⟩
/-- A sound token's own text is cut into it. -/
theorem sound_cut {t : Tok} {r : Bs} (hs : sound t = true) (hv : t.2.2.2 ≤ 9223372036854775807) (hr : Halt t.2.1 t.2.2.1 r) :
    tokText t ≠ [] ∧ beginB (hd (tokText t)) = true ∧ cut (tokText t ++ r) = .inr (t.2.1, t.2.2.1, t.2.2.2, (tokText t).length) := by
  obtain ⟨a, k, s, v⟩ := t
  simp only at hv hr ⊢
  unfold sound at hs
  simp only at hs
  split at hs
  · rename_i hk
    rw [Bool.and_eq_true] at hs
    obtain ⟨hv0, hself⟩ := hs
    obtain rfl : v = 0 := by simpa using hv0
    rw [tokText_own (by show k ≠ 4; omega) (by show k ≠ 5; omega)]
    simp only
    cases s with
    | nil => simp [cutsSelf] at hself
    | cons c t =>
      unfold cutsSelf at hself
      simp only [Bool.and_eq_true] at hself
      obtain ⟨hb, hself⟩ := hself
      refine ⟨by simp, hb, ?_⟩
      have hhd : hd (c :: t ++ r) = hd (c :: t) := rfl
      split at hself
      · cases hself
      · rename_i k' s' v' n hc
        simp only [Bool.and_eq_true, beq_iff_eq] at hself
        obtain ⟨hn, rfl⟩ := hself
        by_cases h1 : digitB (hd (c :: t)) = true
        · rw [cut_digit h1] at hc
          have := (num_is (c := c) h1 hc).1
          omega
        · have h1 : digitB (hd (c :: t)) = false := (Bool.not_eq_true _).mp h1
          by_cases h2 : hd (c :: t) = 34
          · rw [cut_quote h2] at hc
            unfold cutText at hc
            split at hc
            · cases hc
            · cases hc; omega
          · by_cases h3 : signB (hd (c :: t)) = true
            · rw [cut_sign h1 h2 h3] at hc
              obtain ⟨rfl, rfl, hs, _, _, _⟩ := sign_is (by simp) hc
              rw [hn, List.take_length] at hs
              rw [hs] at hc
              have e := sign_again (by simp) hc hr
              rw [hn, List.take_length] at e
              rw [cut_sign (by rw [hhd]; exact h1) (by rw [hhd]; exact h2) (by rw [hhd]; exact h3), e]
            · have h3 : signB (hd (c :: t)) = false := (Bool.not_eq_true _).mp h3
              rw [cut_name h1 h2 h3] at hc
              obtain ⟨hm, hm32, hk', hs, rfl⟩ := name_is hc
              rw [hn, List.take_length] at hs
              have hm' : n = 1 + runLen nameB t := hm
              have hkk := kind_of s'
              rw [← hk'] at hkk
              have e := name_again (c := c) (t := t) (r := r) (by omega) (hr.name (by omega))
              rw [← hm', hn, List.take_length] at e
              rw [cut_name (by rw [hhd]; exact h1) (by rw [hhd]; exact h2) (by rw [hhd]; exact h3), e, hk', hs]
  · split at hs
    · rename_i hk
      subst hk
      simp only [Bool.and_eq_true, decide_eq_true_eq, List.isEmpty_iff] at hs
      obtain ⟨rfl, h0⟩ := hs
      obtain ⟨u, rfl⟩ : ∃ u : Nat, v = u := ⟨v.toNat, by omega⟩
      rw [tokText_num]
      have hd1 : digitB (hd (decDigits u)) = true := by
        obtain ⟨c, t, hct⟩ := List.exists_cons_of_ne_nil (dec_ne u)
        have := dec_digit u c (by rw [hct]; simp)
        rw [hct]; exact this
      refine ⟨dec_ne u, by simp [beginB, hd1], ?_⟩
      rw [cut_digit (by rw [hd_app _ (dec_ne u)]; exact hd1), num_again u r (by omega) (hr.name (by omega))]
    · split at hs
      · rename_i hk
        subst hk
        simp only [Bool.and_eq_true, beq_iff_eq] at hs
        obtain ⟨rfl, h0⟩ := hs
        rw [tokText_quote]
        refine ⟨by simp [quote], by rfl, ?_⟩
        have e : quote s ++ r = 34 :: (escs s ++ 34 :: r) := by simp [quote]
        rw [e, cut_quote rfl]
        unfold cutText
        rw [List.tail_cons, text_again s r 1 [] h0]
        simp [quote]; omega
      · cases hs
end Lx
end Go.Proofs.YtmpbbmfbgcpplaaGreatDoor
namespace Go.Proofs.YtmpbbmfbgcpplaaGreatDoor
namespace Lx
open Lib

def Lay : Bs → Nat → List Tok → Prop
  | l, _, [] => l.drop (skip l) = []
  | l, a, t :: ts => l.drop (skip l) ≠ [] ∧ beginB (hd (l.drop (skip l))) = true ∧ t.1 = a + skip l ∧ ∃ m, cut (l.drop (skip l)) = .inr (t.2.1, t.2.2.1, t.2.2.2, m) ∧ Lay (l.drop (skip l + m)) (a + skip l + m) ts
theorem Lay.done (l : Bs) (a : Nat) (h : l.drop (skip l) = []) : Lay l a [] := h
theorem Lay.tok (l : Bs) (a : Nat) (k v : Int) (s : Bs) (m : Nat) (ts : List Tok) (h0 : l.drop (skip l) ≠ []) (hb : beginB (hd (l.drop (skip l))) = true) (hc : cut (l.drop (skip l)) = .inr (k, s, v, m))
    (hl : Lay (l.drop (skip l + m)) (a + skip l + m) ts) : Lay l a ((a + skip l, k, s, v) :: ts) := ⟨h0, hb, rfl, m, hc, hl⟩
theorem Lay.back {l : Bs} {a : Nat} {ts : List Tok} (h : Lay l a ts) : (l.drop (skip l) = [] ∧ ts = []) ∨
    ∃ k v s m us, l.drop (skip l) ≠ [] ∧ beginB (hd (l.drop (skip l))) = true ∧ cut (l.drop (skip l)) = .inr (k, s, v, m) ∧ Lay (l.drop (skip l + m)) (a + skip l + m) us ∧ ts = (a + skip l, k, s, v) :: us := by
  cases ts with
  | nil => exact .inl ⟨h, rfl⟩
  | cons t us =>
    obtain ⟨p, k, s, v⟩ := t
    obtain ⟨h0, hb, he, m, hc, hl⟩ := h
    have he' : p = a + skip l := he
    subst he'
    exact .inr ⟨k, v, s, m, us, h0, hb, hc, hl, rfl⟩
theorem Lay.ind {motive : ∀ (l : Bs) (a : Nat) (ts : List Tok), Lay l a ts → Prop} (done : ∀ (l : Bs) (a : Nat) (h : l.drop (skip l) = []), motive l a [] (Lay.done l a h))
    (tok : ∀ (l : Bs) (a : Nat) (k v : Int) (s : Bs) (m : Nat) (ts : List Tok) (h0 : l.drop (skip l) ≠ []) (hb : beginB (hd (l.drop (skip l))) = true) (hc : cut (l.drop (skip l)) = .inr (k, s, v, m))
      (hl : Lay (l.drop (skip l + m)) (a + skip l + m) ts), motive _ _ ts hl → motive l a ((a + skip l, k, s, v) :: ts) (Lay.tok l a k v s m ts h0 hb hc hl)) :
    ∀ {l : Bs} {a : Nat} {ts : List Tok} (h : Lay l a ts), motive l a ts h := by
  intro l a ts
  induction ts generalizing l a with
  | nil => exact fun h => done l a h
  | cons t us ih =>
    intro h
    obtain ⟨p, k, s, v⟩ := t
    have h' := h
    obtain ⟨h0, hb, he, m, hc, hl⟩ := h'
    have he' : p = a + skip l := he
    subst he'
    exact tok l a k v s m us h0 hb hc hl (ih hl)

theorem cut_size {l : Bs} {k v : Int} {s : Bs} {m : Nat} (h0 : l ≠ []) (hb : beginB (hd l) = true) (h : cut l = .inr (k, s, v, m)) : 1 ≤ m ∧ m ≤ l.length := by
  obtain ⟨r, h1, h2, _, _, _, h3, _⟩ := cut_is h0 hb h
  refine ⟨h3, ?_⟩
  rw [h1, List.length_append]; omega
theorem lexF_of_lay {l : Bs} {a : Nat} {ts : List Tok} (h : Lay l a ts) : ∀ f n, l.length < f → n + ts.length ≤ 4096 → lexF f l a n = (ts, none) := by
  induction h using Lay.ind with
  | done l a h =>
    intro f n hf _
    obtain ⟨f, rfl⟩ : ∃ g, f = g + 1 := ⟨f - 1, by omega⟩
    rw [lexF, if_pos h]
  | tok l a k v s m ts h0 hb hc hl ih =>
    intro f n hf hn
    obtain ⟨f, rfl⟩ : ∃ g, f = g + 1 := ⟨f - 1, by omega⟩
    obtain ⟨hm1, hm2⟩ := cut_size h0 hb hc
    simp only [List.length_cons] at hn
    rw [lexF, if_neg h0, next, if_neg (by rw [hb]; decide), if_neg (by omega), hc]
    simp only
    rw [ih f (n + 1) (by simp at hm2 ⊢; omega) (by omega)]
theorem lay_of_lexF : ∀ (f : Nat) (l : Bs) (a n : Nat) (ts : List Tok), lexF f l a n = (ts, none) → l.length < f → Lay l a ts ∧ (ts = [] ∨ n + ts.length ≤ 4096)
  | 0, l, a, n, ts, _, hf => by omega
  | f + 1, l, a, n, ts, h, hf => by
    rw [lexF] at h
    split at h
    · rename_i h0
      cases h
      exact ⟨.done l a h0, .inl rfl⟩
    · rename_i h0
      split at h
      · cases h
      · rename_i k s v m hnx
        have hb : beginB (hd (l.drop (skip l))) = true := by
          rcases Bool.eq_false_or_eq_true (beginB (hd (l.drop (skip l)))) with e | e
          · exact e
          · rw [next, if_pos e] at hnx; cases hnx
        rw [next, if_neg (by rw [hb]; decide)] at hnx
        split at hnx
        · cases hnx
        · rename_i hn
          obtain ⟨hm1, hm2⟩ := cut_size h0 hb hnx
          generalize hr : lexF f (l.drop (skip l + m)) (a + skip l + m) (n + 1) = R at h
          obtain ⟨ts', e⟩ := R
          simp only [Prod.mk.injEq] at h
          obtain ⟨rfl, rfl⟩ := h
          obtain ⟨h1, h2⟩ := lay_of_lexF f _ _ _ _ hr (by simp at hm2 ⊢; omega)
          refine ⟨.tok l a k v s m ts' h0 hb hnx h1, .inr ?_⟩
          rcases h2 with rfl | h2
          · simp; omega
          · simp; omega
theorem lex_ok {l : Bs} {ts : List Tok} (h : lex l = (ts, none)) : l.length ≤ 65536 ∧ Lay l 0 ts ∧ ts.length ≤ 4096 := by
  unfold lex at h
  split at h
  · cases h
  · rename_i hl
    obtain ⟨h1, h2⟩ := lay_of_lexF _ _ _ _ _ h (by omega)
    refine ⟨by omega, h1, ?_⟩
    rcases h2 with rfl | h2
    · simp
    · omega
theorem lex_of {l : Bs} {ts : List Tok} (hl : l.length ≤ 65536) (h : Lay l 0 ts) (hn : ts.length ≤ 4096) : lex l = (ts, none) := by
  rw [lex, if_neg (by omega)]
  exact lexF_of_lay h _ _ (by omega) (by omega)
theorem Lay.at {l : Bs} {a : Nat} {ts : List Tok} (h : Lay l a ts) : ∀ b, ∃ us, Lay l b us ∧ us.length = ts.length := by
  induction h using Lay.ind with
  | done l a h => exact fun b => ⟨[], .done l _ h, rfl⟩
  | tok l a k v s m ts h0 hb hc hl ih =>
    intro b
    obtain ⟨us, h1, h2⟩ := ih (b + skip l + m)
    exact ⟨_, .tok l b k v s m us h0 hb hc h1, by simp [h2]⟩
theorem Lay.all {l : Bs} {a : Nat} {ts : List Tok} (h : Lay l a ts) : ∀ t ∈ ts, sound t = true ∧ 0 ≤ t.2.2.2 ∧ t.2.2.2 ≤ 9223372036854775807 ∧ (tokText t).length ≤ l.length ∧ a ≤ t.1 ∧ t.1 < a + l.length := by
  induction h using Lay.ind with
  | done l a h => intro t ht; simp at ht
  | tok l a k v s m ts h0 hb hc hl ih =>
    obtain ⟨r, h1, h2, h3, h4, h5, h6, _⟩ := cut_is h0 hb hc
    obtain ⟨hm1, hm2⟩ := cut_size h0 hb hc
    intro t ht
    rw [List.length_drop] at hm2
    rcases List.mem_cons.1 ht with rfl | ht
    · refine ⟨h3, h4, h5, ?_, Nat.le_add_right _ _, ?_⟩
      · rw [tokText_place, ← h2]; omega
      · show a + skip l < _
        omega
    · obtain ⟨q1, q2, q3, q4, q5, q6⟩ := ih t ht
      rw [List.length_drop] at q4 q6
      exact ⟨q1, q2, q3, by omega, by omega, by omega⟩
theorem Lay.count {l : Bs} {a : Nat} {ts : List Tok} (h : Lay l a ts) : ts.length ≤ l.length := by
  induction h using Lay.ind with
  | done l a h => simp
  | tok l a k v s m ts h0 hb hc hl ih =>
    obtain ⟨hm1, hm2⟩ := cut_size h0 hb hc
    rw [List.length_drop] at hm2 ih
    rw [List.length_cons]; omega
theorem begin_skip {x : Bs} (h : beginB (hd x) = true) : skip x = 0 ∧ x.head? ≠ some 47 := by
  cases x with
  | nil => exact ⟨rfl, by simp⟩
  | cons c r =>
    have hc : beginB (c.toNat : Int) = true := h
    have h47 : c ≠ 47 := by rintro rfl; revert hc; decide
    have hb : blankB (c.toNat : Int) = false := by
      rw [Bool.eq_false_iff]
      intro hb
      simp only [blankB, Bool.or_eq_true, beq_iff_eq] at hb
      rcases hb with ((hb | hb) | hb) | hb <;> (rw [hb] at hc; revert hc; decide)
    refine ⟨?_, by simpa using h47⟩
    rw [skip, skipN, if_neg (by rw [hb]; decide), if_neg (fun h => h47 h.1)]
theorem Lay.ahead {g b : Bs} {o : Nat} {z : List Tok} (hs : skip (g ++ b) = g.length + skip b) (h : Lay b (o + g.length) z) : Lay (g ++ b) o z := by
  rcases h.back with ⟨h1, rfl⟩ | ⟨k, v, s, m, ts, h0, hb, hc, hl, rfl⟩
  · exact .done _ _ (by rw [hs, List.drop_append]; simpa using h1)
  · have e : (g ++ b).drop (skip (g ++ b)) = b.drop (skip b) := by rw [hs, List.drop_append]; simp
    have e2 : (g ++ b).drop (skip (g ++ b) + m) = b.drop (skip b + m) := by rw [hs, Nat.add_assoc, List.drop_append]; simp
    have := Lay.tok (g ++ b) o k v s m ts (by rw [e]; exact h0) (by rw [e]; exact hb) (by rw [e]; exact hc) (by rw [e2, hs, ← Nat.add_assoc]; exact hl)
    rw [hs, ← Nat.add_assoc] at this
    exact this
theorem Lay.behind {g b : Bs} {o : Nat} {z : List Tok} (hs : skip (g ++ b) = g.length + skip b) (h : Lay (g ++ b) o z) : Lay b (o + g.length) z := by
  have e : (g ++ b).drop (skip (g ++ b)) = b.drop (skip b) := by rw [hs, List.drop_append]; simp
  rcases h.back with ⟨h1, rfl⟩ | ⟨k, v, s, m, ts, h0, hb, hc, hl, rfl⟩
  · exact .done _ _ (by rw [← e]; exact h1)
  · have e2 : (g ++ b).drop (skip (g ++ b) + m) = b.drop (skip b + m) := by rw [hs, Nat.add_assoc, List.drop_append]; simp
    rw [e2, hs, ← Nat.add_assoc] at hl
    rw [hs, ← Nat.add_assoc]
    exact .tok b _ k v s m ts (by rw [← e]; exact h0) (by rw [← e]; exact hb) (by rw [← e]; exact hc) hl
theorem Halt.more {k : Int} {s r : Bs} (h : Halt k s r) (c : UInt8) (x : Bs) (hc : nameB (c.toNat : Int) = false) (hc2 : (c.toNat : Int) ≠ 61) : Halt k s (r ++ c :: x) := by
  cases r with
  | nil => exact .inr ⟨fun _ => hc, fun _ _ => hc2⟩
  | cons d r => exact .inr (h.resolve_left (by simp))
end Lx
end Go.Proofs.YtmpbbmfbgcpplaaGreatDoor
namespace Go.Proofs.YtmpbbmfbgcpplaaGreatDoor
namespace Lx
open Lib

theorem escs_le (q : Bs) : q.length ≤ (escs q).length := by
  induction q with
  | nil => simp
  | cons c q ih =>
    rw [escs_cons, List.length_append, List.length_cons]
    have : 1 ≤ (esc1 c).length := by
      unfold esc1
      repeat' split
      all_goals simp
    omega
theorem own_le {t : Tok} (h : sound t = true) : t.2.2.1.length ≤ (tokText t).length := by
  obtain ⟨a, k, s, v⟩ := t
  by_cases h4 : k = 4
  · subst h4
    simp [sound] at h
    simp [h.1]
  · by_cases h5 : k = 5
    · subst h5
      rw [tokText_quote, quote]
      have := escs_le s
      simp; omega
    · rw [tokText_own h4 h5]; exact Nat.le_refl _
theorem join_one {t : Tok} (hs : sound t = true) (hl : (tokText t).length ≤ 65536) : join [t] = .inr (tokText t) := by
  have := own_le hs
  have e : joinW [t] 0 [] = some (tokText t) := by
    simp only [joinW, Nat.lt_irrefl, if_false, List.append_nil, List.length_nil, List.nil_append, Nat.zero_add]
    rw [if_neg (by omega), if_neg (by omega)]
  rw [join, if_neg (by simp [hs]), e]
  simp
/-- tokens with one blank ahead of each. -/
def spaced (ts : List Tok) : Bs := ts.flatMap fun t => 32 :: tokText t
theorem joinW_is : ∀ (ts : List Tok) (i : Nat) (acc l : Bs), 0 < i → joinW ts i acc = some l → l = acc ++ spaced ts ∧ (acc.length ≤ 65536 → l.length ≤ 65536)
  | [], i, acc, l, _, h => by cases h; simp [spaced]
  | t :: r, i, acc, l, hi, h => by
    rw [joinW, if_pos hi] at h
    split at h
    · cases h
    · split at h
      · cases h
      · rename_i _ h2
        obtain ⟨h3, h4⟩ := joinW_is r (i + 1) _ l (by omega) h
        refine ⟨by rw [h3]; simp [spaced], fun _ => h4 (by omega)⟩
/-- A token, with blanks or remarks ahead of it, ahead of what lies. -/
theorem Lay.put {g r : Bs} {a : Nat} {t : Tok} {ts : List Tok} (hs : sound t = true) (hv : t.2.2.2 ≤ 9223372036854775807) (hr : Halt t.2.1 t.2.2.1 r) (hg : skip (g ++ (tokText t ++ r)) = g.length)
    (h : Lay r (a + g.length + (tokText t).length) ts) : Lay (g ++ (tokText t ++ r)) a ((a + g.length, t.2) :: ts) := by
  obtain ⟨h1, h2, h3⟩ := sound_cut hs hv hr
  have e : (g ++ (tokText t ++ r)).drop (skip (g ++ (tokText t ++ r))) = tokText t ++ r := by rw [hg, List.drop_left' rfl]
  have e2 : (g ++ (tokText t ++ r)).drop (skip (g ++ (tokText t ++ r)) + (tokText t).length) = r := by
    rw [hg, ← List.append_assoc, List.drop_left' (by simp)]
  have := Lay.tok (g ++ (tokText t ++ r)) a t.2.1 t.2.2.2 t.2.2.1 (tokText t).length ts (by rw [e]; simp [h1]) (by rw [e, hd_app _ h1]; exact h2) (by rw [e]; exact h3) (by rw [e2, hg]; exact h)
  rw [hg] at this
  exact this
/-- blanks and remarks that may stand ahead of a token. -/
def Gap (g : Bs) : Prop := g ≠ [] ∧ nameB (hd g) = false ∧ hd g ≠ 61 ∧ ∀ x, beginB (hd x) = true → skip (g ++ x) = g.length
/-- what may stand at the end. -/
def Tail (g : Bs) : Prop := (g = [] ∨ (nameB (hd g) = false ∧ hd g ≠ 61)) ∧ g.drop (skip g) = []
def mixed (gs : List (Bs × Tok)) : Bs := gs.flatMap fun p => p.1 ++ tokText p.2
theorem mixed_cons (p : Bs × Tok) (gs : List (Bs × Tok)) : mixed (p :: gs) = p.1 ++ tokText p.2 ++ mixed gs := by simp [mixed]
theorem halt_of {k : Int} {s r : Bs} (h : nameB (hd r) = false) (h2 : hd r ≠ 61) : Halt k s r := .inr ⟨fun _ => h, fun _ _ => h2⟩
theorem halt_mixed {k : Int} {s : Bs} {gs : List (Bs × Tok)} {tl : Bs} (hg : ∀ p ∈ gs, Gap p.1) (ht : Tail tl) : Halt k s (mixed gs ++ tl) := by
  cases gs with
  | nil =>
    rcases ht.1 with rfl | ⟨h1, h2⟩
    · exact .inl rfl
    · exact halt_of h1 h2
  | cons p gs =>
    obtain ⟨h1, h2, h3, _⟩ := hg p (by simp)
    have e : hd (mixed (p :: gs) ++ tl) = hd p.1 := by rw [mixed_cons, List.append_assoc, List.append_assoc, hd_app _ h1]
    exact halt_of (by rw [e]; exact h2) (by rw [e]; exact h3)
theorem Lay.mixed : ∀ (gs : List (Bs × Tok)) (tl : Bs) (a : Nat), (∀ p ∈ gs, Gap p.1) → (∀ p ∈ gs, sound p.2 = true ∧ p.2.2.2.2 ≤ 9223372036854775807) → Tail tl →
    ∃ us, Lay (mixed gs ++ tl) a us ∧ us.map (·.2) = gs.map (·.2.2)
  | [], tl, a, _, _, ht => ⟨[], .done _ _ ht.2, rfl⟩
  | p :: gs, tl, a, hg, hs, ht => by
    obtain ⟨us, h1, h2⟩ := Lay.mixed gs tl (a + p.1.length + (tokText p.2).length) (fun q hq => hg q (by simp [hq])) (fun q hq => hs q (by simp [hq])) ht
    obtain ⟨hp1, hp2⟩ := hs p (by simp)
    obtain ⟨_, _, _, hsk⟩ := hg p (by simp)
    have hh : Halt p.2.2.1 p.2.2.2.1 (Lx.mixed gs ++ tl) := halt_mixed (fun q hq => hg q (by simp [hq])) ht
    obtain ⟨hne, hb, _⟩ := sound_cut hp1 hp2 hh
    refine ⟨(a + p.1.length, p.2.2) :: us, ?_, by simp [h2]⟩
    have := Lay.put (g := p.1) (a := a) hp1 hp2 hh (hsk _ (by rw [hd_app _ hne]; exact hb)) h1
    rw [mixed_cons, List.append_assoc, List.append_assoc]
    exact this
end Lx
end Go.Proofs.YtmpbbmfbgcpplaaGreatDoor
namespace Go.Proofs.YtmpbbmfbgcpplaaGreatDoor
namespace Lx
open Lib

theorem num_sound (u : Nat) : sound (0, 4, [], (u : Int)) = true := by simp [sound]
end Lx
end Go.Proofs.YtmpbbmfbgcpplaaGreatDoor
