/-
  Plain laws: a token that is cut is its own text; a sound token's own text is cut into it, whatever halts it.
-/
import Derived.Test.YthplgkkailieoaaGreatDoorLaws2
namespace Go.Proofs.YthplgkkailieoaaGreatDoor
namespace Lx
open Lib

theorem cut_digit {l : Bs} (h : digitB (hd l) = true) : cut l = cutNumber l := by rw [cut, if_pos h]
theorem cut_quote {l : Bs} (h : hd l = 34) : cut l = cutText l := by rw [cut, h, if_neg (by decide), if_pos rfl]
theorem cut_sign {l : Bs} (h1 : digitB (hd l) = false) (h2 : hd l ≠ 34) (h3 : signB (hd l) = true) : cut l = cutSign l := by
  rw [cut, if_neg (by rw [h1]; decide), if_neg h2, if_pos h3]
theorem cut_name {l : Bs} (h1 : digitB (hd l) = false) (h2 : hd l ≠ 34) (h3 : signB (hd l) = false) : cut l = cutName l := by
  rw [cut, if_neg (by rw [h1]; decide), if_neg h2, if_neg (by rw [h3]; decide)]
theorem tokText_own {t : Tok} (h4 : t.2.1 ≠ 4) (h5 : t.2.1 ≠ 5) : tokText t = t.2.2.1 := by rw [tokText, if_neg h4, if_neg h5]
theorem tokText_num {a : Nat} {s : Bs} (u : Nat) : tokText (a, 4, s, (u : Int)) = decDigits u := by
  rw [tokText, if_pos rfl, itoa, if_neg (by simp)]; rfl
theorem tokText_quote {a : Nat} {s : Bs} {v : Int} : tokText (a, 5, s, v) = quote s := by
  rw [tokText, if_neg (by simp), if_pos rfl]
theorem Halt.name {k : Int} {s r : Bs} (h : Halt k s r) (hk : k = 1 ∨ k = 2 ∨ k = 3 ∨ k = 4) : r = [] ∨ nameB (hd r) = false := or_map h id fun h => h.1 hk
theorem self_of {l s : Bs} {k v : Int} {m : Nat} (hb : beginB (hd l) = true) (h0 : l ≠ []) (h : cut l = .inr (k, s, v, m)) (hm : m = l.length) : cutsSelf k l = true := by
  cases l with
  | nil => exact absurd rfl h0
  | cons c t => simp [cutsSelf, hb, h, hm]
/-- What is cut is the token's own text, sound, and halted by what stands behind it. -/
theorem cut_is {l : Bs} {k v : Int} {s : Bs} {m : Nat} (h0 : l ≠ []) (hb : beginB (hd l) = true) (h : cut l = .inr (k, s, v, m)) :
    ∃ r, l = tokText (0, k, s, v) ++ r ∧ m = (tokText (0, k, s, v)).length ∧ sound (0, k, s, v) = true ∧ 0 ≤ v ∧ v ≤ 9223372036854775807 ∧ 1 ≤ m ∧ Halt k s r := by
  obtain ⟨c, t, rfl⟩ := List.exists_cons_of_ne_nil h0
  by_cases h1 : digitB (hd (c :: t)) = true
  · rw [cut_digit h1] at h
    obtain ⟨rfl, rfl, u, rfl, hu, h3, h4, h5, h6⟩ := num_is (c := c) h1 h
    rw [tokText_num]
    refine ⟨(c :: t).drop m, by rw [← h3, List.take_append_drop], h4, ?_, by omega, by omega, ?_, or_map h6 id fun h => ⟨fun _ => h, by omega⟩⟩
    · simp [sound]
    · have := List.length_pos_iff.2 (dec_ne u); omega
  · have h1 : digitB (hd (c :: t)) = false := (Bool.not_eq_true _).mp h1
    by_cases h2 : hd (c :: t) = 34
    · rw [cut_quote h2] at h
      unfold cutText at h
      split at h
      · cases h
      · rename_i s' n he
        cases h
        obtain ⟨q, r, e1, e2, e3, e4⟩ := text_is _ _ _ _ _ he
        simp only [List.nil_append] at e1
        subst e1
        have hc : c = 34 := UInt8.toNat_inj.mp (by have e : (c.toNat : Int) = 34 := h2; simpa using (by omega : c.toNat = 34))
        have e3' : t = escs s ++ 34 :: r := e3
        rw [tokText_quote]
        refine ⟨r, by rw [hc, e3', quote]; simp, by rw [quote]; simp; omega, by simp [sound, e2], by omega, by omega, by omega, .inr ⟨by omega, by omega⟩⟩
    · by_cases h3 : signB (hd (c :: t)) = true
      · rw [cut_sign h1 h2 h3] at h
        obtain ⟨rfl, rfl, hs, hm1, hm2, hh⟩ := sign_is h0 h
        rw [tokText_own (by simp) (by simp)]
        have hsl : s.length = m := by rw [hs]; simp at hm2 ⊢; omega
        have hss : s ≠ [] := fun e => by rw [e] at hsl; simp at hsl; omega
        have hhd : hd s = hd (c :: t) := by
          rw [hs]
          obtain ⟨j, rfl⟩ : ∃ j, m = j + 1 := ⟨m - 1, by omega⟩
          rfl
        have hself : cutsSelf 6 s = true := by
          have e := sign_again h0 h (.inl rfl : Halt 6 s [])
          rw [List.append_nil, ← hs] at e
          exact self_of (by rw [hhd]; exact hb) hss (by rw [cut_sign (by rw [hhd]; exact h1) (by rw [hhd]; exact h2) (by rw [hhd]; exact h3)]; exact e) hsl.symm
        refine ⟨(c :: t).drop m, ?_, hsl.symm, by simp [sound, hself], by omega, by omega, hm1, hh⟩
        have e := List.take_append_drop m (c :: t)
        rw [← hs] at e
        exact e.symm
      · have h3 : signB (hd (c :: t)) = false := (Bool.not_eq_true _).mp h3
        rw [cut_name h1 h2 h3] at h
        obtain ⟨rfl, hm, hk, hs, rfl⟩ := name_is h
        have hm' : 1 + runLen nameB t ≤ 32 := hm
        have hkk := kind_of s
        rw [← hk] at hkk
        rw [tokText_own (by show k ≠ 4; omega) (by show k ≠ 5; omega)]
        have hsl : s.length = 1 + runLen nameB t := by rw [hs]; have := runLen_le nameB t; simp; omega
        have hss : s ≠ [] := fun e => by rw [e] at hsl; simp at hsl; omega
        have hhd : hd s = hd (c :: t) := by
          rw [hs, show 1 + runLen nameB (c :: t).tail = runLen nameB t + 1 from by simp; omega]
          rfl
        have hself : cutsSelf k s = true := by
          have e := name_again (c := c) hm' (.inl rfl : ([] : Bs) = [] ∨ nameB (hd []) = false)
          have hs' : s = (c :: t).take (1 + runLen nameB t) := hs
          rw [List.append_nil, ← hs', ← hk] at e
          exact self_of (by rw [hhd]; exact hb) hss (by rw [cut_name (by rw [hhd]; exact h1) (by rw [hhd]; exact h2) (by rw [hhd]; exact h3)]; exact e) hsl.symm
        refine ⟨(c :: t).drop (1 + runLen nameB t), ?_, hsl.symm, ?_, by omega, by omega, by omega, ?_⟩
        · have e := List.take_append_drop (1 + runLen nameB t) (c :: t)
          have hs' : s = (c :: t).take (1 + runLen nameB t) := hs
          rw [← hs'] at e
          exact e.symm
        · have hk4 : k = 1 ∨ k = 2 ∨ k = 3 ∨ k = 6 := by omega
          simp [sound, hk4, hself]
        · have := run_rest nameB t
          rw [Nat.add_comm, List.drop_succ_cons]
          exact or_map this id fun h => ⟨fun _ => h, by omega⟩
/-- A sound token's own text is cut into it. -/
theorem sound_cut {t : Tok} {r : Bs} (hs : sound t = true) (hv : t.2.2.2 ≤ 9223372036854775807) (hr : Halt t.2.1 t.2.2.1 r) :
    tokText t ≠ [] ∧ beginB (hd (tokText t)) = true ∧ cut (tokText t ++ r) = .inr (t.2.1, t.2.2.1, t.2.2.2, (tokText t).length) := by
  obtain ⟨a, k, s, v⟩ := t
  simp only at hv hr ⊢
  unfold sound at hs
  simp only at hs
  split at hs
  · rename_i hk
    rw [Bool.and_eq_true] at hs
    obtain ⟨hv0, hself⟩ := hs
    obtain rfl : v = 0 := by simpa using hv0
    rw [tokText_own (by show k ≠ 4; omega) (by show k ≠ 5; omega)]
    simp only
    cases s with
    | nil => simp [cutsSelf] at hself
    | cons c t =>
      unfold cutsSelf at hself
      simp only [Bool.and_eq_true] at hself
      obtain ⟨hb, hself⟩ := hself
      refine ⟨by simp, hb, ?_⟩
      have hhd : hd (c :: t ++ r) = hd (c :: t) := rfl
      split at hself
      · cases hself
      · rename_i k' s' v' n hc
        simp only [Bool.and_eq_true, beq_iff_eq] at hself
        obtain ⟨hn, rfl⟩ := hself
        by_cases h1 : digitB (hd (c :: t)) = true
        · rw [cut_digit h1] at hc
          have := (num_is (c := c) h1 hc).1
          omega
        · have h1 : digitB (hd (c :: t)) = false := (Bool.not_eq_true _).mp h1
          by_cases h2 : hd (c :: t) = 34
          · rw [cut_quote h2] at hc
            unfold cutText at hc
            split at hc
            · cases hc
            · cases hc; omega
          · by_cases h3 : signB (hd (c :: t)) = true
            · rw [cut_sign h1 h2 h3] at hc
              obtain ⟨rfl, rfl, hs, _, _, _⟩ := sign_is (by simp) hc
              rw [hn, List.take_length] at hs
              rw [hs] at hc
              have e := sign_again (by simp) hc hr
              rw [hn, List.take_length] at e
              rw [cut_sign (by rw [hhd]; exact h1) (by rw [hhd]; exact h2) (by rw [hhd]; exact h3), e]
            · have h3 : signB (hd (c :: t)) = false := (Bool.not_eq_true _).mp h3
              rw [cut_name h1 h2 h3] at hc
              obtain ⟨hm, hm32, hk', hs, rfl⟩ := name_is hc
              rw [hn, List.take_length] at hs
              have hm' : n = 1 + runLen nameB t := hm
              have hkk := kind_of s'
              rw [← hk'] at hkk
              have e := name_again (c := c) (t := t) (r := r) (by omega) (hr.name (by omega))
              rw [← hm', hn, List.take_length] at e
              rw [cut_name (by rw [hhd]; exact h1) (by rw [hhd]; exact h2) (by rw [hhd]; exact h3), e, hk', hs]
  · split at hs
    · rename_i hk
      subst hk
      simp only [Bool.and_eq_true, decide_eq_true_eq, List.isEmpty_iff] at hs
      obtain ⟨rfl, h0⟩ := hs
      obtain ⟨u, rfl⟩ : ∃ u : Nat, v = u := ⟨v.toNat, by omega⟩
      rw [tokText_num]
      have hd1 : digitB (hd (decDigits u)) = true := by
        obtain ⟨c, t, hct⟩ := List.exists_cons_of_ne_nil (dec_ne u)
        have := dec_digit u c (by rw [hct]; simp)
        rw [hct]; exact this
      refine ⟨dec_ne u, by simp [beginB, hd1], ?_⟩
      rw [cut_digit (by rw [hd_app _ (dec_ne u)]; exact hd1), num_again u r (by omega) (hr.name (by omega))]
    · split at hs
      · rename_i hk
        subst hk
        simp only [Bool.and_eq_true, beq_iff_eq] at hs
        obtain ⟨rfl, h0⟩ := hs
        rw [tokText_quote]
        refine ⟨by simp [quote], by rfl, ?_⟩
        have e : quote s ++ r = 34 :: (escs s ++ 34 :: r) := by simp [quote]
        rw [e, cut_quote rfl]
        unfold cutText
        rw [List.tail_cons, text_again s r 1 [] h0]
        simp [quote]; omega
      · cases hs
end Lx
end Go.Proofs.YthplgkkailieoaaGreatDoor
