/-
  Plain laws on bytes and tokens: what is cut is its own text, how tokens lie in a text, what is joined is cut into the same.
-/
import Derived.Test.YtmpbbmfbgcpplaaGreatDoorQLexC
namespace Go.Proofs.YtmpbbmfbgcpplaaGreatDoor
namespace Lx

/-- behind a token of that kind, with that text, nothing goes on with it. -/
def Halt (k : Int) (s r : Bs) : Prop := r = [] ∨ ((k = 1 ∨ k = 2 ∨ k = 3 ∨ k = 4 → nameB (hd r) = false) ∧ (k = 6 → s = [61] → hd r ≠ 61))
theorem or_map {a b c d : Prop} (h : a ∨ b) (f : a → c) (g : b → d) : c ∨ d := by
  rcases h with h | h
  · exact .inl (f h)
  · exact .inr (g h)
theorem hd_app {l : Bs} (r : Bs) (h : l ≠ []) : hd (l ++ r) = hd l := by cases l with
  | nil => exact absurd rfl h
  | cons c t => rfl
theorem run0 (p : Int → Bool) (r : Bs) (h : r = [] ∨ p (hd r) = false) : runLen p r = 0 := by
  cases r with
  | nil => rfl
  | cons c t => exact runLen_no p c t (h.resolve_left (by simp))
theorem run_stop (p : Int → Bool) : ∀ (l r : Bs), (r = [] ∨ p (hd r) = false) → runLen p (l.take (runLen p l) ++ r) = runLen p l
  | [], r, h => by simpa [runLen_nil] using run0 p r h
  | c :: t, r, h => by
    by_cases hc : p (c.toNat : Int) = true
    · rw [runLen_yes p c t hc, Nat.add_comm, List.take_succ_cons, List.cons_append, runLen_yes p c _ hc, run_stop p t r h, Nat.add_comm]
    · rw [runLen_no p c t ((Bool.not_eq_true _).mp hc)]; simpa using run0 p r h
theorem run_rest (p : Int → Bool) : ∀ (l : Bs), l.drop (runLen p l) = [] ∨ p (hd (l.drop (runLen p l))) = false
  | [] => .inl (by simp)
  | c :: t => by
    by_cases hc : p (c.toNat : Int) = true
    · rw [runLen_yes p c t hc, Nat.add_comm, List.drop_succ_cons]; exact run_rest p t
    · have hc := (Bool.not_eq_true _).mp hc
      rw [runLen_no p c t hc]; exact .inr hc
theorem run_all (p : Int → Bool) : ∀ (l : Bs), ∀ c ∈ l.take (runLen p l), p (c.toNat : Int) = true
  | [], c, h => by simp at h
  | d :: t, c, h => by
    by_cases hd : p (d.toNat : Int) = true
    · rw [runLen_yes p d t hd, Nat.add_comm, List.take_succ_cons, List.mem_cons] at h
      rcases h with rfl | h
      · exact hd
      · exact run_all p t c h
    · rw [runLen_no p d t ((Bool.not_eq_true _).mp hd)] at h; simp at h
theorem run_of_all (p : Int → Bool) : ∀ (l : Bs), (∀ c ∈ l, p (c.toNat : Int) = true) → runLen p l = l.length
  | [], _ => rfl
  | c :: t, h => by rw [runLen_yes p c t (h c (by simp)), run_of_all p t (fun d hd => h d (by simp [hd])), List.length_cons]; omega
theorem take_take_app {n : Nat} {l : Bs} (r : Bs) (h : n ≤ l.length) : (l.take n ++ r).take n = l.take n := by
  rw [List.take_append_of_le_length (by simp; omega), List.take_take, Nat.min_self]
theorem drop_take_app {n : Nat} {l : Bs} (r : Bs) (h : n ≤ l.length) : (l.take n ++ r).drop n = r := by
  rw [List.drop_append_of_le_length (by simp; omega), List.drop_of_length_le (by simp; omega), List.nil_append]

theorem kind_of (s : Bs) : kindOf s = 1 ∨ kindOf s = 2 ∨ kindOf s = 3 := by
  unfold kindOf; repeat' split
  all_goals simp
theorem name_is {l : Bs} {k v : Int} {s : Bs} {m : Nat} (h : cutName l = .inr (k, s, v, m)) : m = 1 + runLen nameB l.tail ∧ m ≤ 32 ∧ k = kindOf s ∧ s = l.take m ∧ v = 0 := by
  unfold cutName at h
  split at h
  · cases h
  · cases h; exact ⟨rfl, by omega, rfl, rfl, rfl⟩
theorem name_again {c : UInt8} {t r : Bs} (hm : 1 + runLen nameB t ≤ 32) (hr : r = [] ∨ nameB (hd r) = false) :
    cutName ((c :: t).take (1 + runLen nameB t) ++ r) = .inr (kindOf ((c :: t).take (1 + runLen nameB t)), (c :: t).take (1 + runLen nameB t), 0, 1 + runLen nameB t) := by
  have e : (c :: t).take (1 + runLen nameB t) ++ r = c :: (t.take (runLen nameB t) ++ r) := by rw [Nat.add_comm, List.take_succ_cons]; rfl
  have hl := runLen_le nameB t
  have e2 : runLen nameB ((c :: t).take (1 + runLen nameB t) ++ r).tail = runLen nameB t := by rw [e]; exact run_stop nameB t r hr
  have e3 : ((c :: t).take (1 + runLen nameB t) ++ r).take (1 + runLen nameB t) = (c :: t).take (1 + runLen nameB t) := take_take_app r (by simp; omega)
  unfold cutName
  rw [e2, e3, if_neg (by omega)]

theorem sign_is {l : Bs} {k v : Int} {s : Bs} {m : Nat} (hl : l ≠ []) (h : cutSign l = .inr (k, s, v, m)) : k = 6 ∧ v = 0 ∧ s = l.take m ∧ 1 ≤ m ∧ m ≤ l.length ∧ Halt k s (l.drop m) := by
  unfold cutSign at h
  split at h
  case isTrue hp =>
    cases h
    match l, hp with
    | [], hp => simp [List.isPrefixOf] at hp
    | [c], hp => simp [List.isPrefixOf] at hp
    | c :: d :: r, hp =>
      refine ⟨rfl, rfl, rfl, by omega, by simp, .inr ⟨by omega, fun _ h => ?_⟩⟩
      simp at h
  case isFalse hp =>
    cases h
    match l, hp with
    | [], _ => exact absurd rfl hl
    | c :: r, hp =>
      refine ⟨rfl, rfl, rfl, by omega, by simp, ?_⟩
      cases r with
      | nil => exact .inl rfl
      | cons d r =>
        refine .inr ⟨by omega, fun _ h e => hp ?_⟩
        have hc : c = 61 := by simpa using h
        have hd' : d = 61 := by
          have e' : (d.toNat : Int) = 61 := e
          exact UInt8.toNat_inj.mp (by simpa using (by omega : d.toNat = 61))
        subst hc hd'; simp [List.isPrefixOf]
theorem sign_again {l : Bs} {k v : Int} {s r : Bs} {m : Nat} (hl : l ≠ []) (h : cutSign l = .inr (k, s, v, m)) (hr : Halt k s r) : cutSign (l.take m ++ r) = .inr (k, s, v, m) := by
  unfold cutSign at h
  split at h
  case isTrue hp =>
    cases h
    match l, hp with
    | [], hp => simp [List.isPrefixOf] at hp
    | [c], hp => simp [List.isPrefixOf] at hp
    | c :: d :: t, hp =>
      simp [List.isPrefixOf] at hp
      obtain ⟨rfl, rfl⟩ := hp
      simp [cutSign, List.isPrefixOf]
  case isFalse hp =>
    cases h
    match l, hp with
    | [], _ => exact absurd rfl hl
    | c :: t, hp =>
      have : [61, 61].isPrefixOf (c :: r) = false := by
        cases r with
        | nil => simp [List.isPrefixOf]
        | cons d r =>
          rcases hr with hr | hr
          · cases hr
          · rw [Bool.eq_false_iff]
            intro hq
            simp [List.isPrefixOf] at hq
            obtain ⟨rfl, rfl⟩ := hq
            exact hr.2 rfl rfl rfl
      show cutSign (c :: r) = _
      unfold cutSign
      rw [if_neg (by rw [this]; decide)]; simp

theorem sayB_esc {d : UInt8} (h : escOk (d.toNat : Int) = true) : ∃ c : UInt8, sayB c = true ∧ esc1 c = [92, d] ∧ (escB (d.toNat : Int)).toNat.toUInt8 = c := by
  have : d = 110 ∨ d = 34 ∨ d = 92 := by
    simp [escOk] at h
    rcases h with (h | h) | h
    · exact .inl (UInt8.toNat_inj.mp (by simpa using (by omega : d.toNat = 110)))
    · exact .inr (.inl (UInt8.toNat_inj.mp (by simpa using (by omega : d.toNat = 34))))
    · exact .inr (.inr (UInt8.toNat_inj.mp (by simpa using (by omega : d.toNat = 92))))
  rcases this with rfl | rfl | rfl
  · exact ⟨10, by decide, by decide, by decide⟩
  · exact ⟨34, by decide, by decide, by decide⟩
  · exact ⟨92, by decide, by decide, by decide⟩
theorem text_end (r : Bs) (i : Nat) (acc : Bs) : textF (34 :: r) i acc = .inr (acc, i + 1) := by rw [textF.eq_def]; rfl
theorem text_esc (d : UInt8) (r : Bs) (i : Nat) (acc : Bs) (h : escOk (d.toNat : Int) = true) : textF (92 :: d :: r) i acc = textF r (i + 2) (acc ++ [(escB (d.toNat : Int)).toNat.toUInt8]) := by
  rw [textF.eq_def]
  simp only
  rw [if_neg (by decide), if_pos trivial, if_pos h]
theorem text_plain (c : UInt8) (r : Bs) (i : Nat) (acc : Bs) (h34 : c ≠ 34) (h92 : c ≠ 92) (h : plainB (c.toNat : Int) = true) : textF (c :: r) i acc = textF r (i + 1) (acc ++ [c]) := by
  rw [textF.eq_def]
  simp only
  rw [if_neg h34, if_neg h92, if_pos h]
theorem text_is : ∀ (l : Bs) (i : Nat) (acc s : Bs) (n : Nat), textF l i acc = .inr (s, n) → ∃ q r, s = acc ++ q ∧ sayable q = true ∧ l = escs q ++ 34 :: r ∧ n = i + (escs q).length + 1
  | [], i, acc, s, n, h => by rw [textF.eq_def] at h; cases h
  | [c], i, acc, s, n, h => by
    by_cases h34 : c = 34
    · subst h34; rw [text_end] at h; cases h; exact ⟨[], [], by simp, rfl, rfl, by simp [escs]⟩
    · by_cases h92 : c = 92
      · subst h92
        rw [textF.eq_def] at h
        simp only at h
        rw [if_neg (by decide), if_pos trivial] at h
        cases h
      · by_cases hp : plainB (c.toNat : Int) = true
        · rw [text_plain c _ _ _ h34 h92 hp, textF.eq_def] at h; cases h
        · rw [textF.eq_def] at h
          simp only at h
          rw [if_neg h34, if_neg h92, if_neg hp] at h
          cases h
  | c :: d :: r, i, acc, s, n, h => by
    have ih1 := text_is (d :: r)
    have ih2 := text_is r
    by_cases h34 : c = 34
    · subst h34; rw [text_end] at h; cases h; exact ⟨[], d :: r, by simp, rfl, rfl, by simp [escs]⟩
    · by_cases h92 : c = 92
      · subst h92
        by_cases hd : escOk (d.toNat : Int) = true
        · rw [text_esc _ _ _ _ hd] at h
          obtain ⟨q, r', h1, h2, h3, h4⟩ := ih2 _ _ _ _ h
          obtain ⟨c, hc1, hc2, hc3⟩ := sayB_esc hd
          refine ⟨c :: q, r', by rw [h1, hc3]; simp, by rw [sayable_cons, hc1, h2]; rfl, by rw [h3, escs_cons, hc2]; simp, by rw [h4, escs_cons, hc2]; simp; omega⟩
        · rw [textF.eq_def] at h
          simp only at h
          rw [if_neg (by decide), if_pos trivial, if_neg hd] at h
          cases h
      · by_cases hp : plainB (c.toNat : Int) = true
        · rw [text_plain c _ _ _ h34 h92 hp] at h
          obtain ⟨q, r', h1, h2, h3, h4⟩ := ih1 _ _ _ _ h
          have h10 : c ≠ 10 := by rintro rfl; revert hp; decide
          have he : esc1 c = [c] := by simp [esc1, h10, h34, h92]
          refine ⟨c :: q, r', by rw [h1]; simp, by rw [sayable_cons, h2, sayB, hp]; simp, by rw [h3, escs_cons, he]; simp, by rw [h4, escs_cons, he]; simp; omega⟩
        · rw [textF.eq_def] at h
          simp only at h
          rw [if_neg h34, if_neg h92, if_neg hp] at h
          cases h
theorem text_again : ∀ (q : Bs) (r : Bs) (i : Nat) (acc : Bs), sayable q = true → textF (escs q ++ 34 :: r) i acc = .inr (acc ++ q, i + (escs q).length + 1)
  | [], r, i, acc, _ => by simp [escs, text_end]
  | c :: q, r, i, acc, h => by
    rw [sayable_cons, Bool.and_eq_true] at h
    obtain ⟨h1, h2⟩ := h
    have ih := fun i acc => text_again q r i acc h2
    rw [escs_cons]
    by_cases h10 : c = 10
    · subst h10
      show textF (92 :: 110 :: (escs q ++ 34 :: r)) i acc = _
      rw [text_esc _ _ _ _ (by decide), ih]
      have : (escB ((110 : UInt8).toNat : Int)).toNat.toUInt8 = 10 := by decide
      rw [this]; simp [esc1]; omega
    · by_cases h34 : c = 34
      · subst h34
        show textF (92 :: 34 :: (escs q ++ 34 :: r)) i acc = _
        rw [text_esc _ _ _ _ (by decide), ih]
        have : (escB ((34 : UInt8).toNat : Int)).toNat.toUInt8 = 34 := by decide
        rw [this]; simp [esc1]; omega
      · by_cases h92 : c = 92
        · subst h92
          show textF (92 :: 92 :: (escs q ++ 34 :: r)) i acc = _
          rw [text_esc _ _ _ _ (by decide), ih]
          have : (escB ((92 : UInt8).toNat : Int)).toNat.toUInt8 = 92 := by decide
          rw [this]; simp [esc1]; omega
        · have he : esc1 c = [c] := by simp [esc1, h10, h34, h92]
          have hp : plainB (c.toNat : Int) = true := by simpa [sayB, h10] using h1
          rw [he]
          show textF (c :: (escs q ++ 34 :: r)) i acc = _
          rw [text_plain c _ _ _ h34 h92 hp, ih]
          simp; omega
end Lx
end Go.Proofs.YtmpbbmfbgcpplaaGreatDoor
namespace Go.Proofs.YtmpbbmfbgcpplaaGreatDoor
namespace Lx
open Lib

theorem fold_app : ∀ (a b : Bs) (n : Int), numFold (a ++ b) n = (numFold a n).bind fun m => numFold b m
  | [], b, n => rfl
  | c :: a, b, n => by
    show numFold (c :: (a ++ b)) n = _
    rw [numFold, numFold]
    split
    · rfl
    · exact fold_app a b _
theorem digit_toNat {d : Nat} (h : d < 10) : ((UInt8.ofNat (48 + d)).toNat : Int) - 48 = d := by
  rw [UInt8.toNat_ofNat']
  omega
theorem fold_dec (u : Nat) (h : u ≤ 9223372036854775807) : numFold (decDigits u) 0 = some (u : Int) := by
  induction u using Nat.strongRecOn with
  | _ u ih =>
    by_cases hu : u < 10
    · rw [decDigits, dif_pos hu]
      unfold numFold
      rw [digit_toNat hu, if_neg (by omega)]
      simp [numFold]
    · rw [decDigits, dif_neg hu, fold_app, ih (u / 10) (by omega) (by omega)]
      show numFold [UInt8.ofNat (48 + u % 10)] _ = _
      unfold numFold
      rw [digit_toNat (by omega), if_neg (by omega)]
      simp only [numFold]
      congr 1; omega
theorem dec_ne (u : Nat) : decDigits u ≠ [] := by
  rw [decDigits]; split <;> simp
theorem dec_digit (u : Nat) : ∀ c ∈ decDigits u, digitB (c.toNat : Int) = true := by
  induction u using Nat.strongRecOn with
  | _ u ih =>
    have one : ∀ d, d < 10 → digitB ((UInt8.ofNat (48 + d)).toNat : Int) = true := by
      intro d hd
      have := digit_toNat hd
      simp only [digitB, Bool.and_eq_true, decide_eq_true_eq]; omega
    intro c hc
    by_cases hu : u < 10
    · rw [decDigits, dif_pos hu] at hc
      rw [List.mem_singleton.1 hc]; exact one u hu
    · rw [decDigits, dif_neg hu] at hc
      rcases List.mem_append.1 hc with h | h
      · exact ih (u / 10) (by omega) c h
      · rw [List.mem_singleton.1 h]; exact one _ (by omega)
theorem dec_hd (u : Nat) (h : hd (decDigits u) = 48) : u = 0 := by
  induction u using Nat.strongRecOn with
  | _ u ih =>
    by_cases hu : u < 10
    · rw [decDigits, dif_pos hu] at h
      have e : ((UInt8.ofNat (48 + u)).toNat : Int) = 48 := h
      have := digit_toNat hu
      omega
    · rw [decDigits, dif_neg hu, hd_app _ (dec_ne _)] at h
      have := ih (u / 10) (by omega) h
      omega
theorem number_dec (u : Nat) (h : u ≤ 9223372036854775807) : number (decDigits u) = some (u : Int) := by
  unfold number
  rw [if_neg, fold_dec u h]
  rintro ⟨h1, h2⟩
  obtain rfl := dec_hd u h1
  rw [decDigits, dif_pos (by decide)] at h2
  simp at h2
theorem digit_bd {c : UInt8} (h : digitB (c.toNat : Int) = true) : ∃ d, d < 10 ∧ c = UInt8.ofNat (48 + d) ∧ (c.toNat : Int) - 48 = d := by
  simp only [digitB, Bool.and_eq_true, decide_eq_true_eq] at h
  refine ⟨c.toNat - 48, by omega, ?_, by omega⟩
  apply UInt8.toNat_inj.mp
  rw [UInt8.toNat_ofNat']; omega
theorem fold_is : ∀ (ds : Bs) (n : Nat) (v : Int), 1 ≤ n → n ≤ 9223372036854775807 → (∀ c ∈ ds, digitB (c.toNat : Int) = true) → numFold ds n = some v → ∃ u : Nat, v = u ∧ u ≤ 9223372036854775807 ∧ decDigits u = decDigits n ++ ds
  | [], n, v, _, h1, _, h => by cases h; exact ⟨n, rfl, h1, by simp⟩
  | c :: r, n, v, h0, h1, hd, h => by
    obtain ⟨d, hd1, hd2, hd3⟩ := digit_bd (hd c (by simp))
    unfold numFold at h
    rw [hd3] at h
    split at h
    · cases h
    · have e : ((n : Int) * 10 + (d : Int)) = ((n * 10 + d : Nat) : Int) := by omega
      rw [e] at h
      obtain ⟨u, h2, h3, h4⟩ := fold_is r (n * 10 + d) v (by omega) (by omega) (fun c hc => hd c (by simp [hc])) h
      refine ⟨u, h2, h3, ?_⟩
      rw [h4, decDigits, dif_neg (by omega), show (n * 10 + d) / 10 = n from by omega, show (n * 10 + d) % 10 = d from by omega, hd2]
      simp
theorem number_is (ds : Bs) (v : Int) (h0 : ds ≠ []) (hd : ∀ c ∈ ds, digitB (c.toNat : Int) = true) (h : number ds = some v) : ∃ u : Nat, v = u ∧ u ≤ 9223372036854775807 ∧ ds = decDigits u := by
  cases ds with
  | nil => exact absurd rfl h0
  | cons c r =>
    obtain ⟨d, hd1, hd2, hd3⟩ := digit_bd (hd c (by simp))
    unfold number at h
    split at h
    · cases h
    case isFalse hz =>
      unfold numFold at h
      rw [hd3] at h
      split at h
      · cases h
      · by_cases hd0 : d = 0
        · have hr : r = [] := by
            cases r with
            | nil => rfl
            | cons x y =>
              exfalso; apply hz
              refine ⟨?_, by simp⟩
              show (c.toNat : Int) = 48
              omega
          subst hr hd0
          rw [show numFold [] ((0 : Int) * 10 + ((0 : Nat) : Int)) = some 0 from rfl] at h
          cases h
          refine ⟨0, rfl, by omega, ?_⟩
          rw [decDigits, dif_pos (by decide), hd2]
        · have e : ((0 : Int) * 10 + (d : Int)) = ((d : Nat) : Int) := by omega
          rw [e] at h
          obtain ⟨u, h2, h3, h4⟩ := fold_is r d v (by omega) (by omega) (fun c hc => hd c (by simp [hc])) h
          refine ⟨u, h2, h3, ?_⟩
          rw [h4, decDigits, dif_pos hd1, hd2]; rfl
theorem digit_name {x : Int} (h : nameB x = false) : digitB x = false := by
  simp [nameB] at h; exact h.1.2
theorem num_is {c : UInt8} {t : Bs} {k v : Int} {s : Bs} {m : Nat} (hc : digitB (c.toNat : Int) = true) (h : cutNumber (c :: t) = .inr (k, s, v, m)) :
    k = 4 ∧ s = [] ∧ ∃ u : Nat, v = u ∧ u ≤ 9223372036854775807 ∧ (c :: t).take m = decDigits u ∧ m = (decDigits u).length ∧ m ≤ (c :: t).length ∧ ((c :: t).drop m = [] ∨ nameB (hd ((c :: t).drop m)) = false) := by
  unfold cutNumber at h
  have hlen : digLen (c :: t) ≤ (c :: t).length := by have := runLen_le digitB t; simp [digLen]; omega
  split at h
  · cases h
  · rename_i v' hn
    split at h
    · cases h
    · rename_i hz
      cases h
      have hall : ∀ x ∈ (c :: t).take (digLen (c :: t)), digitB (x.toNat : Int) = true := by
        intro x hx
        have e : digLen (c :: t) = runLen digitB t + 1 := by simp [digLen]; omega
        rw [e, List.take_succ_cons, List.mem_cons] at hx
        rcases hx with rfl | hx
        · exact hc
        · exact run_all digitB t x hx
      obtain ⟨u, h1, h2, h3⟩ := number_is _ _ (by simp [digLen]) hall hn
      refine ⟨rfl, rfl, u, h1, h2, h3, ?_, hlen, ?_⟩
      · rw [← h3]; simp; simp at hlen; omega
      · by_cases h0 : (c :: t).drop (digLen (c :: t)) = []
        · exact .inl h0
        · exact .inr ((Bool.not_eq_true _).mp fun h => hz ⟨h0, h⟩)
theorem num_again (u : Nat) (r : Bs) (h : u ≤ 9223372036854775807) (hr : r = [] ∨ nameB (hd r) = false) : cutNumber (decDigits u ++ r) = .inr (4, [], (u : Int), (decDigits u).length) := by
  obtain ⟨c, t, hct⟩ := List.exists_cons_of_ne_nil (dec_ne u)
  have hall := dec_digit u
  have hrd : r = [] ∨ digitB (hd r) = false := or_map hr id digit_name
  have hl : digLen (decDigits u ++ r) = (decDigits u).length := by
    rw [hct]
    show 1 + runLen digitB (t ++ r) = _
    have e : runLen digitB t = t.length := run_of_all digitB t fun x hx => hall x (by rw [hct]; simp [hx])
    have := run_stop digitB t r hrd
    rw [e, List.take_length] at this
    rw [this, List.length_cons]; omega
  unfold cutNumber
  rw [hl, List.take_left' rfl, number_dec u h]
  simp only
  rw [List.drop_left' rfl, if_neg]
  rintro ⟨h1, h2⟩
  rcases hr with rfl | hr
  · exact h1 rfl
  · rw [hr] at h2; cases h2
end Lx
end Go.Proofs.YtmpbbmfbgcpplaaGreatDoor
namespace Go.Proofs.YtmpbbmfbgcpplaaGreatDoor
namespace Lx
open Lib

theorem cut_digit {l : Bs} (h : digitB (hd l) = true) : cut l = cutNumber l := by rw [cut, if_pos h]
theorem cut_quote {l : Bs} (h : hd l = 34) : cut l = cutText l := by rw [cut, h, if_neg (by decide), if_pos rfl]
theorem cut_sign {l : Bs} (h1 : digitB (hd l) = false) (h2 : hd l ≠ 34) (h3 : signB (hd l) = true) : cut l = cutSign l := by
  rw [cut, if_neg (by rw [h1]; decide), if_neg h2, if_pos h3]
theorem cut_name {l : Bs} (h1 : digitB (hd l) = false) (h2 : hd l ≠ 34) (h3 : signB (hd l) = false) : cut l = cutName l := by
  rw [cut, if_neg (by rw [h1]; decide), if_neg h2, if_neg (by rw [h3]; decide)]
theorem tokText_own {t : Tok} (h4 : t.2.1 ≠ 4) (h5 : t.2.1 ≠ 5) : tokText t = t.2.2.1 := by rw [tokText, if_neg h4, if_neg h5]
theorem tokText_num {a : Nat} {s : Bs} (u : Nat) : tokText (a, 4, s, (u : Int)) = decDigits u := by
  rw [tokText, if_pos rfl, itoa, if_neg (by simp)]; rfl
theorem tokText_quote {a : Nat} {s : Bs} {v : Int} : tokText (a, 5, s, v) = quote s := by
  rw [tokText, if_neg (by simp), if_pos rfl]
theorem Halt.name {k : Int} {s r : Bs} (h : Halt k s r) (hk : k = 1 ∨ k = 2 ∨ k = 3 ∨ k = 4) : r = [] ∨ nameB (hd r) = false := or_map h id fun h => h.1 hk
theorem self_of {l s : Bs} {k v : Int} {m : Nat} (hb : beginB (hd l) = true) (h0 : l ≠ []) (h : cut l = .inr (k, s, v, m)) (hm : m = l.length) : cutsSelf k l = true := by
  cases l with
  | nil => exact absurd rfl h0
  | cons c t => simp [cutsSelf, hb, h, hm]
/-- What is cut is the token's own text, sound, and halted by what stands behind it. -/
theorem cut_is {l : Bs} {k v : Int} {s : Bs} {m : Nat} (h0 : l ≠ []) (hb : beginB (hd l) = true) (h : cut l = .inr (k, s, v, m)) :
    ∃ r, l = tokText (0, k, s, v) ++ r ∧ m = (tokText (0, k, s, v)).length ∧ sound (0, k, s, v) = true ∧ 0 ≤ v ∧ v ≤ 9223372036854775807 ∧ 1 ≤ m ∧ Halt k s r := by
  obtain ⟨c, t, rfl⟩ := List.exists_cons_of_ne_nil h0
  by_cases h1 : digitB (hd (c :: t)) = true
  · rw [cut_digit h1] at h
    obtain ⟨rfl, rfl, u, rfl, hu, h3, h4, h5, h6⟩ := num_is (c := c) h1 h
    rw [tokText_num]
    refine ⟨(c :: t).drop m, by rw [← h3, List.take_append_drop], h4, ?_, by omega, by omega, ?_, or_map h6 id fun h => ⟨fun _ => h, by omega⟩⟩
    · simp [sound]
    · have := List.length_pos_iff.2 (dec_ne u); omega
  · have h1 : digitB (hd (c :: t)) = false := (Bool.not_eq_true _).mp h1
    by_cases h2 : hd (c :: t) = 34
    · rw [cut_quote h2] at h
      unfold cutText at h
      split at h
      · cases h
      · rename_i s' n he
        cases h
        obtain ⟨q, r, e1, e2, e3, e4⟩ := text_is _ _ _ _ _ he
        simp only [List.nil_append] at e1
        subst e1
        have hc : c = 34 := UInt8.toNat_inj.mp (by have e : (c.toNat : Int) = 34 := h2; simpa using (by omega : c.toNat = 34))
        have e3' : t = escs s ++ 34 :: r := e3
        rw [tokText_quote]
        refine ⟨r, by rw [hc, e3', quote]; simp, by rw [quote]; simp; omega, by simp [sound, e2], by omega, by omega, by omega, .inr ⟨by omega, by omega⟩⟩
    · by_cases h3 : signB (hd (c :: t)) = true
      · rw [cut_sign h1 h2 h3] at h
        obtain ⟨rfl, rfl, hs, hm1, hm2, hh⟩ := sign_is h0 h
        rw [tokText_own (by simp) (by simp)]
        have hsl : s.length = m := by rw [hs]; simp at hm2 ⊢; omega
        have hss : s ≠ [] := fun e => by rw [e] at hsl; simp at hsl; omega
        have hhd : hd s = hd (c :: t) := by
          rw [hs]
          obtain ⟨j, rfl⟩ : ∃ j, m = j + 1 := ⟨m - 1, by omega⟩
          rfl
        have hself : cutsSelf 6 s = true := by
          have e := sign_again h0 h (.inl rfl : Halt 6 s [])
          rw [List.append_nil, ← hs] at e
          exact self_of (by rw [hhd]; exact hb) hss (by rw [cut_sign (by rw [hhd]; exact h1) (by rw [hhd]; exact h2) (by rw [hhd]; exact h3)]; exact e) hsl.symm
        refine ⟨(c :: t).drop m, ?_, hsl.symm, by simp [sound, hself], by omega, by omega, hm1, hh⟩
        have e := List.take_append_drop m (c :: t)
        rw [← hs] at e
        exact e.symm
      · have h3 : signB (hd (c :: t)) = false := (Bool.not_eq_true _).mp h3
        rw [cut_name h1 h2 h3] at h
        obtain ⟨rfl, hm, hk, hs, rfl⟩ := name_is h
        have hm' : 1 + runLen nameB t ≤ 32 := hm
        have hkk := kind_of s
        rw [← hk] at hkk
        rw [tokText_own (by show k ≠ 4; omega) (by show k ≠ 5; omega)]
        have hsl : s.length = 1 + runLen nameB t := by rw [hs]; have := runLen_le nameB t; simp; omega
        have hss : s ≠ [] := fun e => by rw [e] at hsl; simp at hsl; omega
        have hhd : hd s = hd (c :: t) := by
          rw [hs, show 1 + runLen nameB (c :: t).tail = runLen nameB t + 1 from by simp; omega]
          rfl
        have hself : cutsSelf k s = true := by
          have e := name_again (c := c) hm' (.inl rfl : ([] : Bs) = [] ∨ nameB (hd []) = false)
          have hs' : s = (c :: t).take (1 + runLen nameB t) := hs
          rw [List.append_nil, ← hs', ← hk] at e
          exact self_of (by rw [hhd]; exact hb) hss (by rw [cut_name (by rw [hhd]; exact h1) (by rw [hhd]; exact h2) (by rw [hhd]; exact h3)]; exact e) hsl.symm
        refine ⟨(c :: t).drop (1 + runLen nameB t), ?_, hsl.symm, ?_, by omega, by omega, by omega, ?_⟩
        · have e := List.take_append_drop (1 + runLen nameB t) (c :: t)
          have hs' : s = (c :: t).take (1 + runLen nameB t) := hs
          rw [← hs'] at e
          exact e.symm
        · have hk4 : k = 1 ∨ k = 2 ∨ k = 3 ∨ k = 6 := by omega
          simp [sound, hk4, hself]
        · have := run_rest nameB t
          rw [Nat.add_comm, List.drop_succ_cons]
          exact or_map this id fun h => ⟨fun _ => h, by omega⟩
/-- A sound token's own text is cut into it. -/
theorem sound_cut {t : Tok} {r : Bs} (hs : sound t = true) (hv : t.2.2.2 ≤ 9223372036854775807) (hr : Halt t.2.1 t.2.2.1 r) :
    tokText t ≠ [] ∧ beginB (hd (tokText t)) = true ∧ cut (tokText t ++ r) = .inr (t.2.1, t.2.2.1, t.2.2.2, (tokText t).length) := by
  obtain ⟨a, k, s, v⟩ := t
  simp only at hv hr ⊢
  unfold sound at hs
  simp only at hs
  split at hs
  · rename_i hk
    rw [Bool.and_eq_true] at hs
    obtain ⟨hv0, hself⟩ := hs
    obtain rfl : v = 0 := by simpa using hv0
    rw [tokText_own (by show k ≠ 4; omega) (by show k ≠ 5; omega)]
    simp only
    cases s with
    | nil => simp [cutsSelf] at hself
    | cons c t =>
      unfold cutsSelf at hself
      simp only [Bool.and_eq_true] at hself
      obtain ⟨hb, hself⟩ := hself
      refine ⟨by simp, hb, ?_⟩
      have hhd : hd (c :: t ++ r) = hd (c :: t) := rfl
      split at hself
      · cases hself
      · rename_i k' s' v' n hc
        simp only [Bool.and_eq_true, beq_iff_eq] at hself
        obtain ⟨hn, rfl⟩ := hself
        by_cases h1 : digitB (hd (c :: t)) = true
        · rw [cut_digit h1] at hc
          have := (num_is (c := c) h1 hc).1
          omega
        · have h1 : digitB (hd (c :: t)) = false := (Bool.not_eq_true _).mp h1
          by_cases h2 : hd (c :: t) = 34
          · rw [cut_quote h2] at hc
            unfold cutText at hc
            split at hc
            · cases hc
            · cases hc; omega
          · by_cases h3 : signB (hd (c :: t)) = true
            · rw [cut_sign h1 h2 h3] at hc
              obtain ⟨rfl, rfl, hs, _, _, _⟩ := sign_is (by simp) hc
              rw [hn, List.take_length] at hs
              rw [hs] at hc
              have e := sign_again (by simp) hc hr
              rw [hn, List.take_length] at e
              rw [cut_sign (by rw [hhd]; exact h1) (by rw [hhd]; exact h2) (by rw [hhd]; exact h3), e]
            · have h3 : signB (hd (c :: t)) = false := (Bool.not_eq_true _).mp h3
              rw [cut_name h1 h2 h3] at hc
              obtain ⟨hm, hm32, hk', hs, rfl⟩ := name_is hc
              rw [hn, List.take_length] at hs
              have hm' : n = 1 + runLen nameB t := hm
              have hkk := kind_of s'
              rw [← hk'] at hkk
              have e := name_again (c := c) (t := t) (r := r) (by omega) (hr.name (by omega))
              rw [← hm', hn, List.take_length] at e
              rw [cut_name (by rw [hhd]; exact h1) (by rw [hhd]; exact h2) (by rw [hhd]; exact h3), e, hk', hs]
  · split at hs
    · rename_i hk
      subst hk
      simp only [Bool.and_eq_true, decide_eq_true_eq, List.isEmpty_iff] at hs
      obtain ⟨rfl, h0⟩ := hs
      obtain ⟨u, rfl⟩ : ∃ u : Nat, v = u := ⟨v.toNat, by omega⟩
      rw [tokText_num]
      have hd1 : digitB (hd (decDigits u)) = true := by
        obtain ⟨c, t, hct⟩ := List.exists_cons_of_ne_nil (dec_ne u)
        have := dec_digit u c (by rw [hct]; simp)
        rw [hct]; exact this
      refine ⟨dec_ne u, by simp [beginB, hd1], ?_⟩
      rw [cut_digit (by rw [hd_app _ (dec_ne u)]; exact hd1), num_again u r (by omega) (hr.name (by omega))]
    · split at hs
      · rename_i hk
        subst hk
        simp only [Bool.and_eq_true, beq_iff_eq] at hs
        obtain ⟨rfl, h0⟩ := hs
        rw [tokText_quote]
        refine ⟨by simp [quote], by rfl, ?_⟩
        have e : quote s ++ r = 34 :: (escs s ++ 34 :: r) := by simp [quote]
        rw [e, cut_quote rfl]
        unfold cutText
        rw [List.tail_cons, text_again s r 1 [] h0]
        simp [quote]; omega
      · cases hs
end Lx
end Go.Proofs.YtmpbbmfbgcpplaaGreatDoor
namespace Go.Proofs.YtmpbbmfbgcpplaaGreatDoor
namespace Lx
open Lib

def Lay : Bs → Nat → List Tok → Prop
  | l, _, [] => l.drop (skip l) = []
  | l, a, t :: ts => l.drop (skip l) ≠ [] ∧ beginB (hd (l.drop (skip l))) = true ∧ t.1 = a + skip l ∧ ∃ m, cut (l.drop (skip l)) = .inr (t.2.1, t.2.2.1, t.2.2.2, m) ∧ Lay (l.drop (skip l + m)) (a + skip l + m) ts
theorem Lay.done (l : Bs) (a : Nat) (h : l.drop (skip l) = []) : Lay l a [] := h
theorem Lay.tok (l : Bs) (a : Nat) (k v : Int) (s : Bs) (m : Nat) (ts : List Tok) (h0 : l.drop (skip l) ≠ []) (hb : beginB (hd (l.drop (skip l))) = true) (hc : cut (l.drop (skip l)) = .inr (k, s, v, m))
    (hl : Lay (l.drop (skip l + m)) (a + skip l + m) ts) : Lay l a ((a + skip l, k, s, v) :: ts) := ⟨h0, hb, rfl, m, hc, hl⟩
theorem Lay.back {l : Bs} {a : Nat} {ts : List Tok} (h : Lay l a ts) : (l.drop (skip l) = [] ∧ ts = []) ∨
    ∃ k v s m us, l.drop (skip l) ≠ [] ∧ beginB (hd (l.drop (skip l))) = true ∧ cut (l.drop (skip l)) = .inr (k, s, v, m) ∧ Lay (l.drop (skip l + m)) (a + skip l + m) us ∧ ts = (a + skip l, k, s, v) :: us := by
  cases ts with
  | nil => exact .inl ⟨h, rfl⟩
  | cons t us =>
    obtain ⟨p, k, s, v⟩ := t
    obtain ⟨h0, hb, he, m, hc, hl⟩ := h
    have he' : p = a + skip l := he
    subst he'
    exact .inr ⟨k, v, s, m, us, h0, hb, hc, hl, rfl⟩
theorem Lay.ind {motive : ∀ (l : Bs) (a : Nat) (ts : List Tok), Lay l a ts → Prop} (done : ∀ (l : Bs) (a : Nat) (h : l.drop (skip l) = []), motive l a [] (Lay.done l a h))
    (tok : ∀ (l : Bs) (a : Nat) (k v : Int) (s : Bs) (m : Nat) (ts : List Tok) (h0 : l.drop (skip l) ≠ []) (hb : beginB (hd (l.drop (skip l))) = true) (hc : cut (l.drop (skip l)) = .inr (k, s, v, m))
      (hl : Lay (l.drop (skip l + m)) (a + skip l + m) ts), motive _ _ ts hl → motive l a ((a + skip l, k, s, v) :: ts) (Lay.tok l a k v s m ts h0 hb hc hl)) :
    ∀ {l : Bs} {a : Nat} {ts : List Tok} (h : Lay l a ts), motive l a ts h := by
  intro l a ts
  induction ts generalizing l a with
  | nil => exact fun h => done l a h
  | cons t us ih =>
    intro h
    obtain ⟨p, k, s, v⟩ := t
    have h' := h
    obtain ⟨h0, hb, he, m, hc, hl⟩ := h'
    have he' : p = a + skip l := he
    subst he'
    exact tok l a k v s m us h0 hb hc hl (ih hl)

theorem cut_size {l : Bs} {k v : Int} {s : Bs} {m : Nat} (h0 : l ≠ []) (hb : beginB (hd l) = true) (h : cut l = .inr (k, s, v, m)) : 1 ≤ m ∧ m ≤ l.length := by
  obtain ⟨r, h1, h2, _, _, _, h3, _⟩ := cut_is h0 hb h
  refine ⟨h3, ?_⟩
  rw [h1, List.length_append]; omega
theorem lexF_of_lay {l : Bs} {a : Nat} {ts : List Tok} (h : Lay l a ts) : ∀ f n, l.length < f → n + ts.length ≤ 4096 → lexF f l a n = (ts, none) := by
  induction h using Lay.ind with
  | done l a h =>
    intro f n hf _
    obtain ⟨f, rfl⟩ : ∃ g, f = g + 1 := ⟨f - 1, by omega⟩
    rw [lexF, if_pos h]
  | tok l a k v s m ts h0 hb hc hl ih =>
    intro f n hf hn
    obtain ⟨f, rfl⟩ : ∃ g, f = g + 1 := ⟨f - 1, by omega⟩
    obtain ⟨hm1, hm2⟩ := cut_size h0 hb hc
    simp only [List.length_cons] at hn
    rw [lexF, if_neg h0, next, if_neg (by rw [hb]; decide), if_neg (by omega), hc]
    simp only
    rw [ih f (n + 1) (by simp at hm2 ⊢; omega) (by omega)]
theorem lay_of_lexF : ∀ (f : Nat) (l : Bs) (a n : Nat) (ts : List Tok), lexF f l a n = (ts, none) → l.length < f → Lay l a ts ∧ (ts = [] ∨ n + ts.length ≤ 4096)
  | 0, l, a, n, ts, _, hf => by omega
  | f + 1, l, a, n, ts, h, hf => by
    rw [lexF] at h
    split at h
    · rename_i h0
      cases h
      exact ⟨.done l a h0, .inl rfl⟩
    · rename_i h0
      split at h
      · cases h
      · rename_i k s v m hnx
        have hb : beginB (hd (l.drop (skip l))) = true := by
          rcases Bool.eq_false_or_eq_true (beginB (hd (l.drop (skip l)))) with e | e
          · exact e
          · rw [next, if_pos e] at hnx; cases hnx
        rw [next, if_neg (by rw [hb]; decide)] at hnx
        split at hnx
        · cases hnx
        · rename_i hn
          obtain ⟨hm1, hm2⟩ := cut_size h0 hb hnx
          generalize hr : lexF f (l.drop (skip l + m)) (a + skip l + m) (n + 1) = R at h
          obtain ⟨ts', e⟩ := R
          simp only [Prod.mk.injEq] at h
          obtain ⟨rfl, rfl⟩ := h
          obtain ⟨h1, h2⟩ := lay_of_lexF f _ _ _ _ hr (by simp at hm2 ⊢; omega)
          refine ⟨.tok l a k v s m ts' h0 hb hnx h1, .inr ?_⟩
          rcases h2 with rfl | h2
          · simp; omega
          · simp; omega
theorem lex_ok {l : Bs} {ts : List Tok} (h : lex l = (ts, none)) : l.length ≤ 65536 ∧ Lay l 0 ts ∧ ts.length ≤ 4096 := by
  unfold lex at h
  split at h
  · cases h
  · rename_i hl
    obtain ⟨h1, h2⟩ := lay_of_lexF _ _ _ _ _ h (by omega)
    refine ⟨by omega, h1, ?_⟩
    rcases h2 with rfl | h2
    · simp
    · omega
theorem lex_of {l : Bs} {ts : List Tok} (hl : l.length ≤ 65536) (h : Lay l 0 ts) (hn : ts.length ≤ 4096) : lex l = (ts, none) := by
  rw [lex, if_neg (by omega)]
  exact lexF_of_lay h _ _ (by omega) (by omega)
theorem lex_ok' {l : Bs} (h : (lex l).2 = none) : l.length ≤ 65536 ∧ Lay l 0 (lex l).1 ∧ (lex l).1.length ≤ 4096 := lex_ok (by rw [← h])
theorem Lay.unique {l : Bs} {a : Nat} {ts : List Tok} (h : Lay l a ts) : ∀ us, Lay l a us → ts = us := by
  induction h using Lay.ind with
  | done l a h =>
    intro us hu
    rcases hu.back with ⟨_, rfl⟩ | ⟨k, v, s, m, ts, h0, _⟩
    · rfl
    · exact absurd h h0
  | tok l a k v s m ts h0 hb hc hl ih =>
    intro us hu
    rcases hu.back with ⟨h, _⟩ | ⟨k', v', s', m', ts', _, _, hc', hl', rfl⟩
    · exact absurd h h0
    · rw [hc] at hc'
      cases hc'
      rw [ih _ hl']
/-- tokens further on. -/
def further (d : Nat) (ts : List Tok) : List Tok := ts.map fun t => (t.1 + d, t.2)
theorem Lay.shift {l : Bs} {a : Nat} {ts : List Tok} (h : Lay l a ts) (d : Nat) : Lay l (a + d) (further d ts) := by
  induction h using Lay.ind with
  | done l a h => exact .done l _ h
  | tok l a k v s m ts h0 hb hc hl ih =>
    have e : a + d + skip l = a + skip l + d := by omega
    have ih' : Lay (l.drop (skip l + m)) (a + d + skip l + m) (further d ts) := by rw [show a + d + skip l + m = a + skip l + m + d from by omega]; exact ih
    have := Lay.tok l (a + d) k v s m (further d ts) h0 hb hc ih'
    rw [e] at this
    exact this
theorem Lay.at {l : Bs} {a : Nat} {ts : List Tok} (h : Lay l a ts) : ∀ b, ∃ us, Lay l b us ∧ us.length = ts.length := by
  induction h using Lay.ind with
  | done l a h => exact fun b => ⟨[], .done l _ h, rfl⟩
  | tok l a k v s m ts h0 hb hc hl ih =>
    intro b
    obtain ⟨us, h1, h2⟩ := ih (b + skip l + m)
    exact ⟨_, .tok l b k v s m us h0 hb hc h1, by simp [h2]⟩
theorem Lay.all {l : Bs} {a : Nat} {ts : List Tok} (h : Lay l a ts) : ∀ t ∈ ts, sound t = true ∧ 0 ≤ t.2.2.2 ∧ t.2.2.2 ≤ 9223372036854775807 ∧ (tokText t).length ≤ l.length ∧ a ≤ t.1 ∧ t.1 < a + l.length := by
  induction h using Lay.ind with
  | done l a h => intro t ht; simp at ht
  | tok l a k v s m ts h0 hb hc hl ih =>
    obtain ⟨r, h1, h2, h3, h4, h5, h6, _⟩ := cut_is h0 hb hc
    obtain ⟨hm1, hm2⟩ := cut_size h0 hb hc
    intro t ht
    rw [List.length_drop] at hm2
    rcases List.mem_cons.1 ht with rfl | ht
    · refine ⟨h3, h4, h5, ?_, Nat.le_add_right _ _, ?_⟩
      · rw [tokText_place, ← h2]; omega
      · show a + skip l < _
        omega
    · obtain ⟨q1, q2, q3, q4, q5, q6⟩ := ih t ht
      rw [List.length_drop] at q4 q6
      exact ⟨q1, q2, q3, by omega, by omega, by omega⟩
theorem Lay.count {l : Bs} {a : Nat} {ts : List Tok} (h : Lay l a ts) : ts.length ≤ l.length := by
  induction h using Lay.ind with
  | done l a h => simp
  | tok l a k v s m ts h0 hb hc hl ih =>
    obtain ⟨hm1, hm2⟩ := cut_size h0 hb hc
    rw [List.length_drop] at hm2 ih
    rw [List.length_cons]; omega
/-- Places rise. -/
theorem Lay.rise {l : Bs} {a : Nat} {ts : List Tok} (h : Lay l a ts) : ∀ j t u, ts[j]? = some t → ts[j + 1]? = some u → t.1 < u.1 := by
  induction h using Lay.ind with
  | done l a h => intro j t u ht; simp at ht
  | tok l a k v s m ts h0 hb hc hl ih =>
    obtain ⟨hm1, hm2⟩ := cut_size h0 hb hc
    intro j t u ht hu
    rw [List.getElem?_cons_succ] at hu
    cases j with
    | zero =>
      rw [List.getElem?_cons_zero] at ht
      cases ht
      have := (hl.all u (List.mem_of_getElem? hu)).2.2.2.2.1
      show a + skip l < u.1
      omega
    | succ j => rw [List.getElem?_cons_succ] at ht; exact ih j t u ht hu

theorem skipN_more : ∀ (g : Bs) (f : Bool) (x : Bs), skipN f g < g.length → x.head? ≠ some 47 → skipN f (g ++ x) = skipN f g
  | [], f, x, h, _ => by simp at h
  | c :: r, true, x, h, hx => by
    have ih := fun f => skipN_more r f x
    show skipN true (c :: (r ++ x)) = _
    simp only [skipN, List.length_cons] at h ⊢
    by_cases hq : c = 10
    · simp only [if_pos hq] at h ⊢
      rw [ih false (by omega) hx]
    · simp only [if_neg hq] at h ⊢
      rw [ih true (by omega) hx]
  | c :: r, false, x, h, hx => by
    have ih := fun f => skipN_more r f x
    show skipN false (c :: (r ++ x)) = _
    simp only [skipN, List.length_cons] at h ⊢
    by_cases hq : blankB (c.toNat : Int) = true
    · simp only [if_pos hq] at h ⊢
      rw [ih false (by omega) hx]
    · simp only [if_neg hq] at h ⊢
      by_cases h2 : c = 47 ∧ r.head? = some 47
      · have h3 : c = 47 ∧ (r ++ x).head? = some 47 := by
          refine ⟨h2.1, ?_⟩
          cases r with
          | nil => simp at h2
          | cons d r => exact h2.2
        rw [if_pos h2] at h
        rw [if_pos h2, if_pos h3, ih true (by omega) hx]
      · have h3 : ¬ (c = 47 ∧ (r ++ x).head? = some 47) := by
          rintro ⟨e1, e2⟩
          cases r with
          | nil => exact hx (by simpa using e2)
          | cons d r => exact h2 ⟨e1, e2⟩
        rw [if_neg h2, if_neg h3]
theorem skipN_nl : ∀ (g : Bs) (f : Bool) (x : Bs), skipN f g = g.length → skipN f (g ++ 10 :: x) = g.length + 1 + skip x
  | [], true, x, _ => by simp [skipN, skip]
  | [], false, x, _ => by simp [skipN, skip, blankB]
  | c :: r, true, x, h => by
    have ih := fun f => skipN_nl r f x
    rw [List.cons_append, skipN]
    rw [skipN, List.length_cons] at h
    rw [List.length_cons]
    split at h
    · rw [if_pos (by assumption), ih false (by omega)]; omega
    · rw [if_neg (by assumption), ih true (by omega)]; omega
  | c :: r, false, x, h => by
    have ih := fun f => skipN_nl r f x
    rw [List.cons_append, skipN]
    rw [skipN, List.length_cons] at h
    rw [List.length_cons]
    split at h
    · rw [if_pos (by assumption), ih false (by omega)]; omega
    · rw [if_neg (by assumption)]
      split at h
      · rename_i h2
        have h3 : c = 47 ∧ (r ++ 10 :: x).head? = some 47 := by
          refine ⟨h2.1, ?_⟩
          cases r with
          | nil => simp at h2
          | cons d r => exact h2.2
        rw [if_pos h3, ih true (by omega)]; omega
      · omega
/-- what stands ahead of a place that is neither, is blanks and remarks by itself. -/
theorem skipN_front : ∀ (g : Bs) (f : Bool) (x : Bs), skipN f (g ++ x) = g.length → x.head? ≠ some 47 → skipN f g = g.length
  | [], f, x, _, _ => by cases f <;> simp [skipN]
  | c :: r, true, x, h, hx => by
    have ih := fun f => skipN_front r f x
    rw [List.cons_append, skipN, List.length_cons] at h
    rw [skipN, List.length_cons]
    split at h
    · rw [if_pos (by assumption), ih false (by omega) hx]; omega
    · rw [if_neg (by assumption), ih true (by omega) hx]; omega
  | c :: r, false, x, h, hx => by
    have ih := fun f => skipN_front r f x
    rw [List.cons_append, skipN, List.length_cons] at h
    rw [skipN, List.length_cons]
    split at h
    · rw [if_pos (by assumption), ih false (by omega) hx]; omega
    · rw [if_neg (by assumption)]
      split at h
      · rename_i h2
        have h3 : c = 47 ∧ r.head? = some 47 := by
          refine ⟨h2.1, ?_⟩
          cases r with
          | nil => exact absurd (by simpa using h2.2) hx
          | cons d r => exact h2.2
        rw [if_pos h3, ih true (by omega) hx]; omega
      · omega
theorem begin_skip {x : Bs} (h : beginB (hd x) = true) : skip x = 0 ∧ x.head? ≠ some 47 := by
  cases x with
  | nil => exact ⟨rfl, by simp⟩
  | cons c r =>
    have hc : beginB (c.toNat : Int) = true := h
    have h47 : c ≠ 47 := by rintro rfl; revert hc; decide
    have hb : blankB (c.toNat : Int) = false := by
      rw [Bool.eq_false_iff]
      intro hb
      simp only [blankB, Bool.or_eq_true, beq_iff_eq] at hb
      rcases hb with ((hb | hb) | hb) | hb <;> (rw [hb] at hc; revert hc; decide)
    refine ⟨?_, by simpa using h47⟩
    rw [skip, skipN, if_neg (by rw [hb]; decide), if_neg (fun h => h47 h.1)]
theorem skip_all {l : Bs} (h : l.drop (skip l) = []) : skip l = l.length := by
  have h1 := skip_le l
  have h2 : (l.drop (skip l)).length = 0 := by rw [h]; rfl
  rw [List.length_drop] at h2; omega
theorem skip_not {l : Bs} (h : l.drop (skip l) ≠ []) : skip l < l.length := by
  have h1 := skip_le l
  have h2 := List.length_pos_iff.2 h
  rw [List.length_drop] at h2; omega
theorem Lay.ahead {g b : Bs} {o : Nat} {z : List Tok} (hs : skip (g ++ b) = g.length + skip b) (h : Lay b (o + g.length) z) : Lay (g ++ b) o z := by
  rcases h.back with ⟨h1, rfl⟩ | ⟨k, v, s, m, ts, h0, hb, hc, hl, rfl⟩
  · exact .done _ _ (by rw [hs, List.drop_append]; simpa using h1)
  · have e : (g ++ b).drop (skip (g ++ b)) = b.drop (skip b) := by rw [hs, List.drop_append]; simp
    have e2 : (g ++ b).drop (skip (g ++ b) + m) = b.drop (skip b + m) := by rw [hs, Nat.add_assoc, List.drop_append]; simp
    have := Lay.tok (g ++ b) o k v s m ts (by rw [e]; exact h0) (by rw [e]; exact hb) (by rw [e]; exact hc) (by rw [e2, hs, ← Nat.add_assoc]; exact hl)
    rw [hs, ← Nat.add_assoc] at this
    exact this
theorem Lay.behind {g b : Bs} {o : Nat} {z : List Tok} (hs : skip (g ++ b) = g.length + skip b) (h : Lay (g ++ b) o z) : Lay b (o + g.length) z := by
  have e : (g ++ b).drop (skip (g ++ b)) = b.drop (skip b) := by rw [hs, List.drop_append]; simp
  rcases h.back with ⟨h1, rfl⟩ | ⟨k, v, s, m, ts, h0, hb, hc, hl, rfl⟩
  · exact .done _ _ (by rw [← e]; exact h1)
  · have e2 : (g ++ b).drop (skip (g ++ b) + m) = b.drop (skip b + m) := by rw [hs, Nat.add_assoc, List.drop_append]; simp
    rw [e2, hs, ← Nat.add_assoc] at hl
    rw [hs, ← Nat.add_assoc]
    exact .tok b _ k v s m ts (by rw [← e]; exact h0) (by rw [← e]; exact hb) (by rw [← e]; exact hc) hl
theorem Halt.more {k : Int} {s r : Bs} (h : Halt k s r) (c : UInt8) (x : Bs) (hc : nameB (c.toNat : Int) = false) (hc2 : (c.toNat : Int) ≠ 61) : Halt k s (r ++ c :: x) := by
  cases r with
  | nil => exact .inr ⟨fun _ => hc, fun _ _ => hc2⟩
  | cons d r => exact .inr (h.resolve_left (by simp))
/-- The cut at a place of a text with a line's end behind it. -/
theorem cut_nl {l : Bs} {k v : Int} {s : Bs} {m : Nat} (b : Bs) (h0 : l ≠ []) (hb : beginB (hd l) = true) (h : cut l = .inr (k, s, v, m)) : cut (l ++ 10 :: b) = .inr (k, s, v, m) := by
  obtain ⟨r, h1, h2, h3, h4, h5, h6, h7⟩ := cut_is h0 hb h
  rw [h1, List.append_assoc, h2]
  exact (sound_cut (t := (0, k, s, v)) h3 h5 (h7.more 10 b (by decide) (by decide))).2.2
theorem nl_skips {l : Bs} (b : Bs) (h : l.drop (skip l) ≠ []) : skip (l ++ 10 :: b) = skip l ∧ (l ++ 10 :: b).drop (skip l) = l.drop (skip l) ++ 10 :: b := by
  have hs := skip_not h
  exact ⟨skipN_more l false (10 :: b) hs (by simp), by rw [List.drop_append_of_le_length (by omega)]⟩
theorem Lay.nl {a : Bs} {o : Nat} {x : List Tok} (h : Lay a o x) {b : Bs} {z : List Tok} (hz : Lay b (o + a.length + 1) z) : Lay (a ++ 10 :: b) o (x ++ z) := by
  induction h using Lay.ind with
  | done l o h =>
    have e : skip (l ++ 10 :: b) = l.length + 1 + skip b := skipN_nl l false b (skip_all h)
    have e2 : l ++ 10 :: b = (l ++ [10]) ++ b := by simp
    rw [List.nil_append, e2]
    refine Lay.ahead (by rw [← e2, e]; simp) ?_
    have e4 : o + (l ++ [10] : Bs).length = o + l.length + 1 := by simp; omega
    rw [e4]
    exact hz
  | tok l o k v s m ts h0 hb hc hl ih =>
    obtain ⟨e1, e2⟩ := nl_skips b h0
    obtain ⟨hm1, hm2⟩ := cut_size h0 hb hc
    have hsn := skip_not h0
    rw [List.length_drop] at hm2
    have e3 : (l ++ 10 :: b).drop (skip (l ++ 10 :: b) + m) = l.drop (skip l + m) ++ 10 :: b := by rw [e1, List.drop_append_of_le_length (by omega)]
    have hz' : Lay b (o + skip l + m + (l.drop (skip l + m)).length + 1) z := by
      rw [List.length_drop, show o + skip l + m + (l.length - (skip l + m)) + 1 = o + l.length + 1 from by omega]; exact hz
    have := Lay.tok (l ++ 10 :: b) o k v s m (ts ++ z) (by rw [e1, e2]; simp) (by rw [e1, e2, hd_app _ h0]; exact hb) (by rw [e1, e2]; exact cut_nl b h0 hb hc) (by rw [e3, e1]; exact ih hz')
    rw [e1] at this
    exact this
theorem Lay.nl_back {a : Bs} {o : Nat} {x : List Tok} (h : Lay a o x) {b : Bs} : ∀ {y : List Tok}, Lay (a ++ 10 :: b) o y → ∃ z, Lay b (o + a.length + 1) z := by
  induction h using Lay.ind with
  | done l o h =>
    intro y hy
    have e : skip (l ++ 10 :: b) = l.length + 1 + skip b := skipN_nl l false b (skip_all h)
    have e2 : l ++ 10 :: b = (l ++ [10]) ++ b := by simp
    rw [e2] at hy
    have := Lay.behind (by rw [← e2, e]; simp) hy
    have e4 : o + (l ++ [10] : Bs).length = o + l.length + 1 := by simp; omega
    rw [e4] at this
    exact ⟨y, this⟩
  | tok l o k v s m ts h0 hb hc hl ih =>
    intro y hy
    obtain ⟨e1, e2⟩ := nl_skips b h0
    obtain ⟨hm1, hm2⟩ := cut_size h0 hb hc
    have hsn := skip_not h0
    rw [List.length_drop] at hm2
    have e3 : (l ++ 10 :: b).drop (skip (l ++ 10 :: b) + m) = l.drop (skip l + m) ++ 10 :: b := by rw [e1, List.drop_append_of_le_length (by omega)]
    rcases hy.back with ⟨h, _⟩ | ⟨k', v', s', m', ts', h0', hb', hc', hl', rfl⟩
    · rw [e1, e2] at h; simp at h
    · rw [e1, e2, cut_nl b h0 hb hc] at hc'
      cases hc'
      rw [e3, e1] at hl'
      obtain ⟨z, hz⟩ := ih hl'
      refine ⟨z, ?_⟩
      rw [List.length_drop, show o + skip l + m + (l.length - (skip l + m)) + 1 = o + l.length + 1 from by omega] at hz
      exact hz
end Lx
end Go.Proofs.YtmpbbmfbgcpplaaGreatDoor
namespace Go.Proofs.YtmpbbmfbgcpplaaGreatDoor
namespace Lx
open Lib

theorem escs_le (q : Bs) : q.length ≤ (escs q).length := by
  induction q with
  | nil => simp
  | cons c q ih =>
    rw [escs_cons, List.length_append, List.length_cons]
    have : 1 ≤ (esc1 c).length := by
      unfold esc1
      repeat' split
      all_goals simp
    omega
theorem escs_two (q : Bs) : (escs q).length ≤ 2 * q.length := by
  induction q with
  | nil => simp [escs]
  | cons c q ih =>
    rw [escs_cons, List.length_append, List.length_cons]
    have := esc1_len c
    omega
theorem own_le {t : Tok} (h : sound t = true) : t.2.2.1.length ≤ (tokText t).length := by
  obtain ⟨a, k, s, v⟩ := t
  by_cases h4 : k = 4
  · subst h4
    simp [sound] at h
    simp [h.1]
  · by_cases h5 : k = 5
    · subst h5
      rw [tokText_quote, quote]
      have := escs_le s
      simp; omega
    · rw [tokText_own h4 h5]; exact Nat.le_refl _
theorem join_one {t : Tok} (hs : sound t = true) (hl : (tokText t).length ≤ 65536) : join [t] = .inr (tokText t) := by
  have := own_le hs
  have e : joinW [t] 0 [] = some (tokText t) := by
    simp only [joinW, Nat.lt_irrefl, if_false, List.append_nil, List.length_nil, List.nil_append, Nat.zero_add]
    rw [if_neg (by omega), if_neg (by omega)]
  rw [join, if_neg (by simp [hs]), e]
  simp
theorem join_bad {t : Tok} (hs : sound t = false) : join [t] = .inl 1 := by rw [join, if_pos (by simp [hs])]
/-- tokens with one blank ahead of each. -/
def spaced (ts : List Tok) : Bs := ts.flatMap fun t => 32 :: tokText t
theorem joinW_is : ∀ (ts : List Tok) (i : Nat) (acc l : Bs), 0 < i → joinW ts i acc = some l → l = acc ++ spaced ts ∧ (acc.length ≤ 65536 → l.length ≤ 65536)
  | [], i, acc, l, _, h => by cases h; simp [spaced]
  | t :: r, i, acc, l, hi, h => by
    rw [joinW, if_pos hi] at h
    split at h
    · cases h
    · split at h
      · cases h
      · rename_i _ h2
        obtain ⟨h3, h4⟩ := joinW_is r (i + 1) _ l (by omega) h
        refine ⟨by rw [h3]; simp [spaced], fun _ => h4 (by omega)⟩
theorem join_is {ts : List Tok} {l : Bs} (h : join ts = .inr l) : ts.all sound = true ∧ ts.length ≤ 4096 ∧ l.length ≤ 65536 ∧ (match ts with | [] => l = [] | t :: r => l = tokText t ++ spaced r) := by
  unfold join at h
  split at h
  · cases h
  · rename_i hs
    split at h
    · cases h
    · rename_i l' hw
      split at h
      · cases h
      · cases h
        refine ⟨by simpa using hs, by omega, ?_⟩
        cases ts with
        | nil => cases hw; simp
        | cons t r =>
          simp only [joinW, Nat.lt_irrefl, if_false, List.append_nil, List.length_nil, List.nil_append, Nat.zero_add] at hw
          split at hw
          · cases hw
          · split at hw
            · cases hw
            · rename_i h2
              obtain ⟨h3, h4⟩ := joinW_is r 1 _ l (by omega) hw
              exact ⟨h4 (by omega), h3⟩
/-- A token, with blanks or remarks ahead of it, ahead of what lies. -/
theorem Lay.put {g r : Bs} {a : Nat} {t : Tok} {ts : List Tok} (hs : sound t = true) (hv : t.2.2.2 ≤ 9223372036854775807) (hr : Halt t.2.1 t.2.2.1 r) (hg : skip (g ++ (tokText t ++ r)) = g.length)
    (h : Lay r (a + g.length + (tokText t).length) ts) : Lay (g ++ (tokText t ++ r)) a ((a + g.length, t.2) :: ts) := by
  obtain ⟨h1, h2, h3⟩ := sound_cut hs hv hr
  have e : (g ++ (tokText t ++ r)).drop (skip (g ++ (tokText t ++ r))) = tokText t ++ r := by rw [hg, List.drop_left' rfl]
  have e2 : (g ++ (tokText t ++ r)).drop (skip (g ++ (tokText t ++ r)) + (tokText t).length) = r := by
    rw [hg, ← List.append_assoc, List.drop_left' (by simp)]
  have := Lay.tok (g ++ (tokText t ++ r)) a t.2.1 t.2.2.2 t.2.2.1 (tokText t).length ts (by rw [e]; simp [h1]) (by rw [e, hd_app _ h1]; exact h2) (by rw [e]; exact h3) (by rw [e2, hg]; exact h)
  rw [hg] at this
  exact this
/-- blanks and remarks that may stand ahead of a token. -/
def Gap (g : Bs) : Prop := g ≠ [] ∧ nameB (hd g) = false ∧ hd g ≠ 61 ∧ ∀ x, beginB (hd x) = true → skip (g ++ x) = g.length
/-- what may stand at the end. -/
def Tail (g : Bs) : Prop := (g = [] ∨ (nameB (hd g) = false ∧ hd g ≠ 61)) ∧ g.drop (skip g) = []
def mixed (gs : List (Bs × Tok)) : Bs := gs.flatMap fun p => p.1 ++ tokText p.2
theorem mixed_cons (p : Bs × Tok) (gs : List (Bs × Tok)) : mixed (p :: gs) = p.1 ++ tokText p.2 ++ mixed gs := by simp [mixed]
theorem halt_of {k : Int} {s r : Bs} (h : nameB (hd r) = false) (h2 : hd r ≠ 61) : Halt k s r := .inr ⟨fun _ => h, fun _ _ => h2⟩
theorem halt_mixed {k : Int} {s : Bs} {gs : List (Bs × Tok)} {tl : Bs} (hg : ∀ p ∈ gs, Gap p.1) (ht : Tail tl) : Halt k s (mixed gs ++ tl) := by
  cases gs with
  | nil =>
    rcases ht.1 with rfl | ⟨h1, h2⟩
    · exact .inl rfl
    · exact halt_of h1 h2
  | cons p gs =>
    obtain ⟨h1, h2, h3, _⟩ := hg p (by simp)
    have e : hd (mixed (p :: gs) ++ tl) = hd p.1 := by rw [mixed_cons, List.append_assoc, List.append_assoc, hd_app _ h1]
    exact halt_of (by rw [e]; exact h2) (by rw [e]; exact h3)
theorem Lay.mixed : ∀ (gs : List (Bs × Tok)) (tl : Bs) (a : Nat), (∀ p ∈ gs, Gap p.1) → (∀ p ∈ gs, sound p.2 = true ∧ p.2.2.2.2 ≤ 9223372036854775807) → Tail tl →
    ∃ us, Lay (mixed gs ++ tl) a us ∧ us.map (·.2) = gs.map (·.2.2)
  | [], tl, a, _, _, ht => ⟨[], .done _ _ ht.2, rfl⟩
  | p :: gs, tl, a, hg, hs, ht => by
    obtain ⟨us, h1, h2⟩ := Lay.mixed gs tl (a + p.1.length + (tokText p.2).length) (fun q hq => hg q (by simp [hq])) (fun q hq => hs q (by simp [hq])) ht
    obtain ⟨hp1, hp2⟩ := hs p (by simp)
    obtain ⟨_, _, _, hsk⟩ := hg p (by simp)
    have hh : Halt p.2.2.1 p.2.2.2.1 (Lx.mixed gs ++ tl) := halt_mixed (fun q hq => hg q (by simp [hq])) ht
    obtain ⟨hne, hb, _⟩ := sound_cut hp1 hp2 hh
    refine ⟨(a + p.1.length, p.2.2) :: us, ?_, by simp [h2]⟩
    have := Lay.put (g := p.1) (a := a) hp1 hp2 hh (hsk _ (by rw [hd_app _ hne]; exact hb)) h1
    rw [mixed_cons, List.append_assoc, List.append_assoc]
    exact this
theorem gap_blank : Gap [32] := by
  refine ⟨by simp, by decide, by decide, fun x hx => ?_⟩
  show skip (32 :: x) = 1
  rw [skip_blank _ _ (by decide), (begin_skip hx).1]
theorem spaced_mixed (ts : List Tok) : spaced ts = mixed (ts.map fun t => ([32], t)) := by
  induction ts with
  | nil => rfl
  | cons t r ih => simp [spaced, mixed] at ih ⊢; exact ih
/-- What Join writes is cut into the same tokens. -/
theorem join_lex {ts : List Tok} {l : Bs} (h : join ts = .inr l) (hv : ∀ t ∈ ts, t.2.2.2 ≤ 9223372036854775807) : ∃ us, lex l = (us, none) ∧ us.map (·.2) = ts.map (·.2) := by
  obtain ⟨h1, h2, h3, h4⟩ := join_is h
  rw [List.all_eq_true] at h1
  have key : ∃ us, Lay l 0 us ∧ us.map (·.2) = ts.map (·.2) := by
    cases ts with
    | nil =>
      simp only at h4
      subst h4
      exact ⟨[], .done _ _ (by simp), rfl⟩
    | cons t r =>
      simp only at h4
      subst h4
      have htl : Tail [] := ⟨.inl rfl, by simp⟩
      have hg : ∀ p ∈ r.map (fun t => (([32], t) : Bs × Tok)), Gap p.1 := by
        intro p hp
        obtain ⟨t, _, rfl⟩ := List.mem_map.1 hp
        exact gap_blank
      obtain ⟨us, q1, q2⟩ := Lay.mixed (r.map fun t => ([32], t)) [] (0 + ([] : Bs).length + (tokText t).length) hg (by
        intro p hp
        obtain ⟨t, ht, rfl⟩ := List.mem_map.1 hp
        exact ⟨h1 t (by simp [ht]), hv t (by simp [ht])⟩) htl
      have hh : Halt t.2.1 t.2.2.1 (mixed (r.map fun t => ([32], t)) ++ []) := halt_mixed hg htl
      obtain ⟨hne, hb, _⟩ := sound_cut (h1 t (by simp)) (hv t (by simp)) hh
      have := Lay.put (g := []) (a := 0) (h1 t (by simp)) (hv t (by simp)) hh (by rw [List.nil_append]; exact (begin_skip (by rw [hd_app _ hne]; exact hb)).1) q1
      refine ⟨_, by rw [spaced_mixed]; simpa using this, ?_⟩
      simp [q2, Function.comp_def]
  obtain ⟨us, q1, q2⟩ := key
  refine ⟨us, lex_of h3 q1 ?_, q2⟩
  have := congrArg List.length q2
  simp at this; omega

theorem head_bad {a b : Bs} {x : List Tok} (hx : lex a = (x, none)) (hl : a.length + b.length + 1 ≤ 65536) (hb : (lex b).2 ≠ none) : (lex (a ++ 10 :: b)).2 ≠ none := by
  intro h
  obtain ⟨_, h2, _⟩ := lex_ok hx
  obtain ⟨_, h4, h5⟩ := lex_ok' h
  obtain ⟨z, hz⟩ := h2.nl_back h4
  obtain ⟨z0, hz0, hzl⟩ := hz.at 0
  have := (h2.nl hz).unique _ h4
  have hlen := congrArg List.length this
  rw [List.length_append] at hlen
  exact hb (by rw [lex_of (by omega) hz0 (by omega)])
theorem head_many {a b : Bs} {x z : List Tok} (hx : lex a = (x, none)) (hz : lex b = (z, none)) (hn : 4096 < x.length + z.length) : (lex (a ++ 10 :: b)).2 ≠ none := by
  intro h
  obtain ⟨_, h2, _⟩ := lex_ok hx
  obtain ⟨_, h4, h5⟩ := lex_ok' h
  obtain ⟨_, h6, _⟩ := lex_ok hz
  have := (h2.nl (by have := h6.shift (a.length + 1); rwa [show 0 + (a.length + 1) = 0 + a.length + 1 from by omega] at this)).unique _ h4
  have hlen := congrArg List.length this
  simp only [List.length_append, further, List.length_map] at hlen
  omega
theorem head_good {a b : Bs} {x z : List Tok} (hx : lex a = (x, none)) (hz : lex b = (z, none)) (hl : a.length + b.length + 1 ≤ 65536) (hn : x.length + z.length ≤ 4096) : lex (a ++ 10 :: b) = (x ++ further (a.length + 1) z, none) := by
  obtain ⟨_, h2, _⟩ := lex_ok hx
  obtain ⟨_, h6, _⟩ := lex_ok hz
  refine lex_of (by simp; omega) (h2.nl (by have := h6.shift (a.length + 1); rwa [show 0 + (a.length + 1) = 0 + a.length + 1 from by omega] at this)) (by simp [further]; omega)
end Lx
end Go.Proofs.YtmpbbmfbgcpplaaGreatDoor
namespace Go.Proofs.YtmpbbmfbgcpplaaGreatDoor
namespace Lx
open Lib

theorem say_sound (l : Bs) : sound (0, 5, l, 0) = sayable l := by simp [sound]
theorem quote_join {l : Bs} (h : sayable l = true) (hl : l.length ≤ 1000) : join [(0, 5, l, 0)] = .inr (quote l) := by
  have e := join_one (t := (0, 5, l, 0)) (by rw [say_sound]; exact h) (by
    have := escs_two l
    rw [tokText_quote, quote]; simp; omega)
  rw [e, tokText_quote]
theorem quote_lex {l : Bs} (h : sayable l = true) (hl : l.length ≤ 1000) : lex (quote l) = ([(0, 5, l, 0)], none) := by
  have h2 := escs_two l
  have hs : sound (0, 5, l, 0) = true := by rw [say_sound]; exact h
  have e : tokText (0, 5, l, 0) = quote l := tokText_quote
  obtain ⟨h3, h4, _⟩ := sound_cut (t := (0, 5, l, 0)) (r := []) hs (by show (0 : Int) ≤ _; omega) (.inl rfl)
  have := Lay.put (g := []) (r := []) (a := 0) (t := (0, 5, l, 0)) (ts := []) hs (by show (0 : Int) ≤ _; omega) (.inl rfl) (by
    rw [List.nil_append, List.append_nil]; exact (begin_skip h4).1) (.done _ _ (by simp))
  rw [e] at this
  simp only [List.nil_append, List.append_nil, List.length_nil, Nat.add_zero] at this
  exact lex_of (by rw [quote]; simp; omega) this (by simp)

theorem num_sound (u : Nat) : sound (0, 4, [], (u : Int)) = true := by simp [sound]
theorem num_join {u : Nat} (h : u ≤ 9223372036854775807) : join [(0, 4, [], (u : Int))] = .inr (decDigits u) := by
  have e := join_one (t := (0, 4, [], (u : Int))) (num_sound u) (by
    rw [tokText_num, decDigits_length]
    have := nDigits_le20 u (by omega)
    omega)
  rw [e, tokText_num]
theorem num_lex {u : Nat} (h : u ≤ 9223372036854775807) : lex (120 :: 32 :: (decDigits u ++ [59])) = ([(0, 1, [120], 0), (2, 4, [], (u : Int)), (2 + (decDigits u).length, 6, [59], 0)], none) := by
  have h20 : (decDigits u).length ≤ 20 := by rw [decDigits_length]; exact nDigits_le20 u (by omega)
  have hx : sound (0, 1, [120], 0) = true := by decide +kernel
  have hs : sound (0, 6, [59], 0) = true := by decide +kernel
  have hn := num_sound u
  have l3 : Lay (([] : Bs) ++ (tokText (0, 6, [59], 0) ++ [])) (2 + (decDigits u).length) [(2 + (decDigits u).length, 6, [59], 0)] :=
    Lay.put (g := []) (t := (0, 6, [59], 0)) hs (by show (0 : Int) ≤ _; omega) (.inl rfl) (by decide +kernel) (.done _ _ (by simp))
  have e3 : ([] : Bs) ++ (tokText (0, 6, [59], 0) ++ []) = [59] := by decide +kernel
  rw [e3] at l3
  have hh : Halt 4 [] [59] := .inr ⟨fun _ => by decide, by omega⟩
  obtain ⟨q1, q2, _⟩ := sound_cut (t := (0, 4, [], (u : Int))) hn (by show (u : Int) ≤ _; omega) hh
  have l2 : Lay ([32] ++ (tokText (0, 4, [], (u : Int)) ++ [59])) 1 [(2, 4, [], (u : Int)), (2 + (decDigits u).length, 6, [59], 0)] :=
    Lay.put (g := [32]) (a := 1) (t := (0, 4, [], (u : Int))) hn (by show (u : Int) ≤ _; omega) hh (gap_blank.2.2.2 _ (by rw [hd_app _ q1]; exact q2)) (by rw [tokText_num]; exact l3)
  have l1 : Lay (([] : Bs) ++ (tokText (0, 1, [120], 0) ++ ([32] ++ (tokText (0, 4, [], (u : Int)) ++ [59])))) 0 [(0, 1, [120], 0), (2, 4, [], (u : Int)), (2 + (decDigits u).length, 6, [59], 0)] :=
    Lay.put (g := []) (a := 0) (t := (0, 1, [120], 0)) hx (by show (0 : Int) ≤ _; omega) (.inr ⟨fun _ => by rfl, fun h => by simp at h⟩) (begin_skip (by rfl)).1 l2
  rw [tokText_num] at l1
  exact lex_of (by simp; omega) l1 (by simp)
end Lx
end Go.Proofs.YtmpbbmfbgcpplaaGreatDoor
