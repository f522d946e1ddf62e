/-
  Plain laws on numbers, and on tokens of all kinds: what is cut is the token's own text, which is cut into it again.
-/
import Derived.Test.YthplgkkailieoaaGreatDoorLaws
namespace Go.Proofs.YthplgkkailieoaaGreatDoor
namespace Lx
open Lib

theorem fold_app : ∀ (a b : Bs) (n : Int), numFold (a ++ b) n = (numFold a n).bind fun m => numFold b m
  | [], b, n => rfl
  | c :: a, b, n => by
    show numFold (c :: (a ++ b)) n = _
    rw [numFold, numFold]
    split
    · rfl
    · exact fold_app a b _
theorem digit_toNat {d : Nat} (h : d < 10) : ((UInt8.ofNat (48 + d)).toNat : Int) - 48 = d := by
  rw [UInt8.toNat_ofNat']
  omega
theorem fold_dec (u : Nat) (h : u ≤ 9223372036854775807) : numFold (decDigits u) 0 = some (u : Int) := by
  induction u using Nat.strongRecOn with
  | _ u ih =>
    by_cases hu : u < 10
    · rw [decDigits, dif_pos hu]
      unfold numFold
      rw [digit_toNat hu, if_neg (by omega)]
      simp [numFold]
    · rw [decDigits, dif_neg hu, fold_app, ih (u / 10) (by omega) (by omega)]
      show numFold [UInt8.ofNat (48 + u % 10)] _ = _
      unfold numFold
      rw [digit_toNat (by omega), if_neg (by omega)]
      simp only [numFold]
      congr 1; omega
theorem dec_ne (u : Nat) : decDigits u ≠ [] := by
  rw [decDigits]; split <;> simp
theorem dec_digit (u : Nat) : ∀ c ∈ decDigits u, digitB (c.toNat : Int) = true := by
  induction u using Nat.strongRecOn with
  | _ u ih =>
    have one : ∀ d, d < 10 → digitB ((UInt8.ofNat (48 + d)).toNat : Int) = true := by
      intro d hd
      have := digit_toNat hd
      simp only [digitB, Bool.and_eq_true, decide_eq_true_eq]; omega
    intro c hc
    by_cases hu : u < 10
    · rw [decDigits, dif_pos hu] at hc
      rw [List.mem_singleton.1 hc]; exact one u hu
    · rw [decDigits, dif_neg hu] at hc
      rcases List.mem_append.1 hc with h | h
      · exact ih (u / 10) (by omega) c h
      · rw [List.mem_singleton.1 h]; exact one _ (by omega)
theorem dec_hd (u : Nat) (h : hd (decDigits u) = 48) : u = 0 := by
  induction u using Nat.strongRecOn with
  | _ u ih =>
    by_cases hu : u < 10
    · rw [decDigits, dif_pos hu] at h
      have e : ((UInt8.ofNat (48 + u)).toNat : Int) = 48 := h
      have := digit_toNat hu
      omega
    · rw [decDigits, dif_neg hu, hd_app _ (dec_ne _)] at h
      have := ih (u / 10) (by omega) h
      omega
theorem number_dec (u : Nat) (h : u ≤ 9223372036854775807) : number (decDigits u) = some (u : Int) := by
  unfold number
  rw [if_neg, fold_dec u h]
  rintro ⟨h1, h2⟩
  obtain rfl := dec_hd u h1
  rw [decDigits, dif_pos (by decide)] at h2
  simp at h2
theorem digit_bd {c : UInt8} (h : digitB (c.toNat : Int) = true) : ∃ d, d < 10 ∧ c = UInt8.ofNat (48 + d) ∧ (c.toNat : Int) - 48 = d := by
  simp only [digitB, Bool.and_eq_true, decide_eq_true_eq] at h
  refine ⟨c.toNat - 48, by omega, ?_, by omega⟩
  apply UInt8.toNat_inj.mp
  rw [UInt8.toNat_ofNat']; omega
theorem fold_is : ∀ (ds : Bs) (n : Nat) (v : Int), 1 ≤ n → n ≤ 9223372036854775807 → (∀ c ∈ ds, digitB (c.toNat : Int) = true) → numFold ds n = some v → ∃ u : Nat, v = u ∧ u ≤ 9223372036854775807 ∧ decDigits u = decDigits n ++ ds
  | [], n, v, _, h1, _, h => by cases h; exact ⟨n, rfl, h1, by simp⟩
  | c :: r, n, v, h0, h1, hd, h => by
    obtain ⟨d, hd1, hd2, hd3⟩ := digit_bd (hd c (by simp))
    unfold numFold at h
    rw [hd3] at h
    split at h
    · cases h
    · have e : ((n : Int) * 10 + (d : Int)) = ((n * 10 + d : Nat) : Int) := by omega
      rw [e] at h
      obtain ⟨u, h2, h3, h4⟩ := fold_is r (n * 10 + d) v (by omega) (by omega) (fun c hc => hd c (by simp [hc])) h
      refine ⟨u, h2, h3, ?_⟩
      rw [h4, decDigits, dif_neg (by omega), show (n * 10 + d) / 10 = n from by omega, show (n * 10 + d) % 10 = d from by omega, hd2]
      simp
theorem number_is (ds : Bs) (v : Int) (h0 : ds ≠ []) (hd : ∀ c ∈ ds, digitB (c.toNat : Int) = true) (h : number ds = some v) : ∃ u : Nat, v = u ∧ u ≤ 9223372036854775807 ∧ ds = decDigits u := by
  cases ds with
  | nil => exact absurd rfl h0
  | cons c r =>
    obtain ⟨d, hd1, hd2, hd3⟩ := digit_bd (hd c (by simp))
    unfold number at h
    split at h
    · cases h
    case isFalse hz =>
      unfold numFold at h
      rw [hd3] at h
      split at h
      · cases h
      · by_cases hd0 : d = 0
        · have hr : r = [] := by
            cases r with
            | nil => rfl
            | cons x y =>
              exfalso; apply hz
              refine ⟨?_, by simp⟩
              show (c.toNat : Int) = 48
              omega
          subst hr hd0
          rw [show numFold [] ((0 : Int) * 10 + ((0 : Nat) : Int)) = some 0 from rfl] at h
          cases h
          refine ⟨0, rfl, by omega, ?_⟩
          rw [decDigits, dif_pos (by decide), hd2]
        · have e : ((0 : Int) * 10 + (d : Int)) = ((d : Nat) : Int) := by omega
          rw [e] at h
          obtain ⟨u, h2, h3, h4⟩ := fold_is r d v (by omega) (by omega) (fun c hc => hd c (by simp [hc])) h
          refine ⟨u, h2, h3, ?_⟩
          rw [h4, decDigits, dif_pos hd1, hd2]; rfl
theorem digit_name {x : Int} (h : nameB x = false) : digitB x = false := by
  simp [nameB] at h; exact h.1.2
theorem num_is {c : UInt8} {t : Bs} {k v : Int} {s : Bs} {m : Nat} (hc : digitB (c.toNat : Int) = true) (h : cutNumber (c :: t) = .inr (k, s, v, m)) :
    k = 4 ∧ s = [] ∧ ∃ u : Nat, v = u ∧ u ≤ 9223372036854775807 ∧ (c :: t).take m = decDigits u ∧ m = (decDigits u).length ∧ m ≤ (c :: t).length ∧ ((c :: t).drop m = [] ∨ nameB (hd ((c :: t).drop m)) = false) := by
  unfold cutNumber at h
  have hlen : digLen (c :: t) ≤ (c :: t).length := by have := runLen_le digitB t; simp [digLen]; omega
  split at h
  · cases h
  · rename_i v' hn
    split at h
    · cases h
    · rename_i hz
      cases h
      have hall : ∀ x ∈ (c :: t).take (digLen (c :: t)), digitB (x.toNat : Int) = true := by
        intro x hx
        have e : digLen (c :: t) = runLen digitB t + 1 := by simp [digLen]; omega
        rw [e, List.take_succ_cons, List.mem_cons] at hx
        rcases hx with rfl | hx
        · exact hc
        · exact run_all digitB t x hx
      obtain ⟨u, h1, h2, h3⟩ := number_is _ _ (by simp [digLen]) hall hn
      refine ⟨rfl, rfl, u, h1, h2, h3, ?_, hlen, ?_⟩
      · rw [← h3]; simp; simp at hlen; omega
      · by_cases h0 : (c :: t).drop (digLen (c :: t)) = []
        · exact .inl h0
        · exact .inr ((Bool.not_eq_true _).mp fun h => hz ⟨h0, h⟩)
theorem num_again (u : Nat) (r : Bs) (h : u ≤ 9223372036854775807) (hr : r = [] ∨ nameB (hd r) = false) : cutNumber (decDigits u ++ r) = .inr (4, [], (u : Int), (decDigits u).length) := by
  obtain ⟨c, t, hct⟩ := List.exists_cons_of_ne_nil (dec_ne u)
  have hall := dec_digit u
  have hrd : r = [] ∨ digitB (hd r) = false := or_map hr id digit_name
  have hl : digLen (decDigits u ++ r) = (decDigits u).length := by
    rw [hct]
    show 1 + runLen digitB (t ++ r) = _
    have e : runLen digitB t = t.length := run_of_all digitB t fun x hx => hall x (by rw [hct]; simp [hx])
    have := run_stop digitB t r hrd
    rw [e, List.take_length] at this
    rw [this, List.length_cons]; omega
  unfold cutNumber
  rw [hl, List.take_left' rfl, number_dec u h]
  simp only
  rw [List.drop_left' rfl, if_neg]
  rintro ⟨h1, h2⟩
  rcases hr with rfl | hr
  · exact h1 rfl
  · rw [hr] at h2; cases h2
end Lx
end Go.Proofs.YthplgkkailieoaaGreatDoor
