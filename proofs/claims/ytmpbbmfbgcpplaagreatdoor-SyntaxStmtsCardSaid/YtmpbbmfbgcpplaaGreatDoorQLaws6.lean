import Derived.Test.YtmpbbmfbgcpplaaGreatDoorQLexC
namespace Go.Proofs.YtmpbbmfbgcpplaaGreatDoor
namespace Lx
def Halt (k : Int) (s r : Bs) : Prop := r = [] ∨ ((k = 1 ∨ k = 2 ∨ k = 3 ∨ k = 4 → zax (hd r) = false) ∧ (k = 6 → s = [61] → hd r ≠ 61))
theorem or_map {a b c d : Prop} (h : a ∨ b) (f : a → c) (g : b → d) : c ∨ d := by
 rcases h with h | h
 ·exact .inl (f h)
 ·exact .inr (g h)
theorem hd_app {l : Bs} (r : Bs) (h : l ≠ []) : hd (l ++ r) = hd l := by cases l with
 | nil => exact absurd rfl h
 | cons c t => rfl
theorem run0 (p : Int → Bool) (r : Bs) (h : r = [] ∨ p (hd r) = false) : zai p r = 0 := by
 cases r with
 | nil => rfl
 | cons c t => exact zej p c t (h.resolve_left (by simp))
theorem run_stop (p : Int → Bool) : ∀ (l r : Bs), (r = [] ∨ p (hd r) = false) → zai p (l.take (zai p l) ++ r) = zai p l
 | [], r, h => by simpa [runLen_nil] using run0 p r h
 | c :: t, r, h => by
  by_cases hc : p (c.toNat : Int) = true
  ·rw [zcv p c t hc, Nat.add_comm, List.take_succ_cons, List.cons_append, zcv p c _ hc, run_stop p t r h, Nat.add_comm]
  ·rw [zej p c t ((Bool.not_eq_true _).mp hc)]; simpa using run0 p r h
theorem run_rest (p : Int → Bool) : ∀ (l : Bs), l.drop (zai p l) = [] ∨ p (hd (l.drop (zai p l))) = false
 | [] => .inl (by simp)
 | c :: t => by
  by_cases hc : p (c.toNat : Int) = true
  ·rw [zcv p c t hc, Nat.add_comm, List.drop_succ_cons]; exact run_rest p t
  ·have hc := (Bool.not_eq_true _).mp hc
   rw [zej p c t hc]; exact .inr hc
theorem run_all (p : Int → Bool) : ∀ (l : Bs), ∀ c ∈ l.take (zai p l), p (c.toNat : Int) = true
 | [], c, h => by simp at h
 | d :: t, c, h => by
  by_cases hd : p (d.toNat : Int) = true
  ·rw [zcv p d t hd, Nat.add_comm, List.take_succ_cons, List.mem_cons] at h
   rcases h with rfl | h
   ·exact hd
   ·exact run_all p t c h
  ·rw [zej p d t ((Bool.not_eq_true _).mp hd)] at h; simp at h
theorem run_of_all (p : Int → Bool) : ∀ (l : Bs), (∀ c ∈ l, p (c.toNat : Int) = true) → zai p l = l.length
 | [], _ => rfl
 | c :: t, h => by rw [zcv p c t (h c (by simp)), run_of_all p t (fun d hd => h d (by simp [hd])), List.length_cons]; omega
theorem take_take_app {n : Nat} {l : Bs} (r : Bs) (h : n ≤ l.length) : (l.take n ++ r).take n = l.take n := by
 rw [List.take_append_of_le_length (by simp; omega), List.take_take, Nat.min_self]
theorem zlu (s : Bs) : kindOf s = 1 ∨ kindOf s = 2 ∨ kindOf s = 3 := by
 unfold kindOf; repeat' split
 all_goals simp
theorem name_is {l : Bs} {k v : Int} {s : Bs} {m : Nat} (h : zbz l = .inr (k, s, v, m)) : m = 1 + zai zax l.tail ∧ m ≤ 32 ∧ k = kindOf s ∧ s = l.take m ∧ v = 0 := by
 unfold zbz at h
 split at h
 ·cases h
 ·cases h; exact ⟨rfl, by omega, rfl, rfl, rfl⟩
theorem name_again {c : UInt8} {t r : Bs} (hm : 1 + zai zax t ≤ 32) (hr : r = [] ∨ zax (hd r) = false) :
  zbz ((c :: t).take (1 + zai zax t) ++ r) = .inr (kindOf ((c :: t).take (1 + zai zax t)), (c :: t).take (1 + zai zax t), 0, 1 + zai zax t) := by
 have e : (c :: t).take (1 + zai zax t) ++ r = c :: (t.take (zai zax t) ++ r) := by rw [Nat.add_comm, List.take_succ_cons]; rfl
 have hl := zen zax t
 have e2 : zai zax ((c :: t).take (1 + zai zax t) ++ r).tail = zai zax t := by rw [e]; exact run_stop zax t r hr
 have e3 : ((c :: t).take (1 + zai zax t) ++ r).take (1 + zai zax t) = (c :: t).take (1 + zai zax t) := take_take_app r (by simp; omega)
 unfold zbz
 rw [e2, e3, if_neg (by omega)]
theorem sign_is {l : Bs} {k v : Int} {s : Bs} {m : Nat} (hl : l ≠ []) (h : zc0 l = .inr (k, s, v, m)) : k = 6 ∧ v = 0 ∧ s = l.take m ∧ 1 ≤ m ∧ m ≤ l.length ∧ Halt k s (l.drop m) := by
 unfold zc0 at h
 split at h
 case isTrue hp =>
  cases h
  match l, hp with
  | [], hp => simp [List.isPrefixOf] at hp
  | [c], hp => simp [List.isPrefixOf] at hp
  | c :: d :: r, hp =>
   refine ⟨rfl, rfl, rfl, by omega, by simp, .inr ⟨by omega, fun _ h => ?_⟩⟩
   simp at h
 case isFalse hp =>
  cases h
  match l, hp with
  | [], _ => exact absurd rfl hl
  | c :: r, hp =>
   refine ⟨rfl, rfl, rfl, by omega, by simp, ?_⟩
   cases r with
   | nil => exact .inl rfl
   | cons d r =>
    refine .inr ⟨by omega, fun _ h e => hp ?_⟩
    have hc : c = 61 := by simpa using h
    have hd' : d = 61 := by
     have e' : (d.toNat : Int) = 61 := e
     exact UInt8.toNat_inj.mp (by simpa using (by omega : d.toNat = 61))
    subst hc hd'; simp [List.isPrefixOf]
theorem sign_again {l : Bs} {k v : Int} {s r : Bs} {m : Nat} (hl : l ≠ []) (h : zc0 l = .inr (k, s, v, m)) (hr : Halt k s r) : zc0 (l.take m ++ r) = .inr (k, s, v, m) := by
 unfold zc0 at h
 split at h
 case isTrue hp =>
  cases h
  match l, hp with
  | [], hp => simp [List.isPrefixOf] at hp
  | [c], hp => simp [List.isPrefixOf] at hp
  | c :: d :: t, hp =>
   simp [List.isPrefixOf] at hp
   obtain ⟨rfl, rfl⟩ := hp
   simp [zc0, List.isPrefixOf]
 case isFalse hp =>
  cases h
  match l, hp with
  | [], _ => exact absurd rfl hl
  | c :: t, hp =>
   have : [61, 61].isPrefixOf (c :: r) = false := by
    cases r with
    | nil => simp [List.isPrefixOf]
    | cons d r =>
     rcases hr with hr | hr
     ·cases hr
     ·rw [Bool.eq_false_iff]
      intro hq
      simp [List.isPrefixOf] at hq
      obtain ⟨rfl, rfl⟩ := hq
      exact hr.2 rfl rfl rfl
   show zc0 (c :: r) = _
   unfold zc0
   rw [if_neg (by rw [this]; decide)]; simp
theorem sayB_esc {d : UInt8} (h : zg2 (d.toNat : Int) = true) : ∃ c : UInt8, sayB c = true ∧ zka c = [92, d] ∧ (escB (d.toNat : Int)).toNat.toUInt8 = c := by
 have : d = 110 ∨ d = 34 ∨ d = 92 := by
  simp [zg2] at h
  rcases h with (h | h) | h
  ·exact .inl (UInt8.toNat_inj.mp (by simpa using (by omega : d.toNat = 110)))
  ·exact .inr (.inl (UInt8.toNat_inj.mp (by simpa using (by omega : d.toNat = 34))))
  ·exact .inr (.inr (UInt8.toNat_inj.mp (by simpa using (by omega : d.toNat = 92))))
 rcases this with rfl | rfl | rfl
 ·exact ⟨10, by decide, by decide, by decide⟩
 ·exact ⟨34, by decide, by decide, by decide⟩
 ·exact ⟨92, by decide, by decide, by decide⟩
theorem text_end (r : Bs) (i : Nat) (acc : Bs) : textF (34 :: r) i acc = .inr (acc, i + 1) := by rw [textF.eq_def]; rfl
theorem zjf (d : UInt8) (r : Bs) (i : Nat) (acc : Bs) (h : zg2 (d.toNat : Int) = true) : textF (92 :: d :: r) i acc = textF r (i + 2) (acc ++ [(escB (d.toNat : Int)).toNat.toUInt8]) := by
 rw [textF.eq_def]
 simp only
 rw [if_neg (by decide), if_pos trivial, if_pos h]
theorem ziq (c : UInt8) (r : Bs) (i : Nat) (acc : Bs) (h34 : c ≠ 34) (h92 : c ≠ 92) (h : zcn (c.toNat : Int) = true) : textF (c :: r) i acc = textF r (i + 1) (acc ++ [c]) := by
 rw [textF.eq_def]
 simp only
 rw [if_neg h34, if_neg h92, if_pos h]
theorem text_is : ∀ (l : Bs) (i : Nat) (acc s : Bs) (n : Nat), textF l i acc = .inr (s, n) → ∃ q r, s = acc ++ q ∧ zb3 q = true ∧ l = zgw q ++ 34 :: r ∧ n = i + (zgw q).length + 1
 | [], i, acc, s, n, h => by rw [textF.eq_def] at h; cases h
 | [c], i, acc, s, n, h => by
  by_cases h34 : c = 34
  ·subst h34; rw [text_end] at h; cases h; exact ⟨[], [], by simp, rfl, rfl, by simp [zgw]⟩
  ·by_cases h92 : c = 92
   ·subst h92
    rw [textF.eq_def] at h
    simp only at h
    rw [if_neg (by decide), if_pos trivial] at h
    cases h
   ·by_cases hp : zcn (c.toNat : Int) = true
    ·rw [ziq c _ _ _ h34 h92 hp, textF.eq_def] at h; cases h
    ·rw [textF.eq_def] at h
     simp only at h
     rw [if_neg h34, if_neg h92, if_neg hp] at h
     cases h
 | c :: d :: r, i, acc, s, n, h => by
  have ih1 := text_is (d :: r)
  have ih2 := text_is r
  by_cases h34 : c = 34
  ·subst h34; rw [text_end] at h; cases h; exact ⟨[], d :: r, by simp, rfl, rfl, by simp [zgw]⟩
  ·by_cases h92 : c = 92
   ·subst h92
    by_cases hd : zg2 (d.toNat : Int) = true
    ·rw [zjf _ _ _ _ hd] at h
     obtain ⟨q, r', h1, h2, h3, h4⟩ := ih2 _ _ _ _ h
     obtain ⟨c, hc1, hc2, hc3⟩ := sayB_esc hd
     refine ⟨c :: q, r', by rw [h1, hc3]; simp, by rw [zcl, hc1, h2]; rfl, by rw [h3, zct, hc2]; simp, by rw [h4, zct, hc2]; simp; omega⟩
    ·rw [textF.eq_def] at h
     simp only at h
     rw [if_neg (by decide), if_pos trivial, if_neg hd] at h
     cases h
   ·by_cases hp : zcn (c.toNat : Int) = true
    ·rw [ziq c _ _ _ h34 h92 hp] at h
     obtain ⟨q, r', h1, h2, h3, h4⟩ := ih1 _ _ _ _ h
     have h10 : c ≠ 10 := by rintro rfl; revert hp; decide
     have he : zka c = [c] := by simp [zka, h10, h34, h92]
     refine ⟨c :: q, r', by rw [h1]; simp, by rw [zcl, h2, sayB, hp]; simp, by rw [h3, zct, he]; simp, by rw [h4, zct, he]; simp; omega⟩
    ·rw [textF.eq_def] at h
     simp only at h
     rw [if_neg h34, if_neg h92, if_neg hp] at h
     cases h
theorem text_again : ∀ (q : Bs) (r : Bs) (i : Nat) (acc : Bs), zb3 q = true → textF (zgw q ++ 34 :: r) i acc = .inr (acc ++ q, i + (zgw q).length + 1)
 | [], r, i, acc, _ => by simp [zgw, text_end]
 | c :: q, r, i, acc, h => by
  rw [zcl, Bool.and_eq_true] at h
  obtain ⟨h1, h2⟩ := h
  have ih := fun i acc => text_again q r i acc h2
  rw [zct]
  by_cases h10 : c = 10
  ·subst h10
   show textF (92 :: 110 :: (zgw q ++ 34 :: r)) i acc = _
   rw [zjf _ _ _ _ (by decide), ih]
   have : (escB ((110 : UInt8).toNat : Int)).toNat.toUInt8 = 10 := by decide
   rw [this]; simp [zka]; omega
  ·by_cases h34 : c = 34
   ·subst h34
    show textF (92 :: 34 :: (zgw q ++ 34 :: r)) i acc = _
    rw [zjf _ _ _ _ (by decide), ih]
    have : (escB ((34 : UInt8).toNat : Int)).toNat.toUInt8 = 34 := by decide
    rw [this]; simp [zka]; omega
   ·by_cases h92 : c = 92
    ·subst h92
     show textF (92 :: 92 :: (zgw q ++ 34 :: r)) i acc = _
     rw [zjf _ _ _ _ (by decide), ih]
     have : (escB ((92 : UInt8).toNat : Int)).toNat.toUInt8 = 92 := by decide
     rw [this]; simp [zka]; omega
    ·have he : zka c = [c] := by simp [zka, h10, h34, h92]
     have hp : zcn (c.toNat : Int) = true := by simpa [sayB, h10] using h1
     rw [he]
     show textF (c :: (zgw q ++ 34 :: r)) i acc = _
     rw [ziq c _ _ _ h34 h92 hp, ih]
     simp; omega
end Lx
namespace Lx
open Lib
theorem fold_app : ∀ (a b : Bs) (n : Int), zbc (a ++ b) n = (zbc a n).bind fun m => zbc b m
 | [], b, n => rfl
 | c :: a, b, n => by
  show zbc (c :: (a ++ b)) n = _
  rw [zbc, zbc]
  split
  ·rfl
  ·exact fold_app a b _
theorem zfm {d : Nat} (h : d < 10) : ((UInt8.ofNat (48 + d)).toNat : Int) - 48 = d := by
 rw [UInt8.toNat_ofNat']
 omega
theorem fold_dec (u : Nat) (h : u ≤ 9223372036854775807) : zbc (decDigits u) 0 = some (u : Int) := by
 induction u using Nat.strongRecOn with
 | _ u ih =>
  by_cases hu : u < 10
  ·rw [decDigits, dif_pos hu]
   unfold zbc
   rw [zfm hu, if_neg (by omega)]
   simp [zbc]
  ·rw [decDigits, dif_neg hu, fold_app, ih (u / 10) (by omega) (by omega)]
   show zbc [UInt8.ofNat (48 + u % 10)] _ = _
   unfold zbc
   rw [zfm (by omega), if_neg (by omega)]
   simp only [zbc]
   congr 1; omega
theorem zln (u : Nat) : decDigits u ≠ [] := by
 rw [decDigits]; split <;> simp
theorem dec_digit (u : Nat) : ∀ c ∈ decDigits u, zab (c.toNat : Int) = true := by
 induction u using Nat.strongRecOn with
 | _ u ih =>
  have one : ∀ d, d < 10 → zab ((UInt8.ofNat (48 + d)).toNat : Int) = true := by
   intro d hd
   have := zfm hd
   simp only [zab, Bool.and_eq_true, decide_eq_true_eq]; omega
  intro c hc
  by_cases hu : u < 10
  ·rw [decDigits, dif_pos hu] at hc
   rw [List.mem_singleton.1 hc]; exact one u hu
  ·rw [decDigits, dif_neg hu] at hc
   rcases List.mem_append.1 hc with h | h
   ·exact ih (u / 10) (by omega) c h
   ·rw [List.mem_singleton.1 h]; exact one _ (by omega)
theorem dec_hd (u : Nat) (h : hd (decDigits u) = 48) : u = 0 := by
 induction u using Nat.strongRecOn with
 | _ u ih =>
  by_cases hu : u < 10
  ·rw [decDigits, dif_pos hu] at h
   have e : ((UInt8.ofNat (48 + u)).toNat : Int) = 48 := h
   have := zfm hu
   omega
  ·rw [decDigits, dif_neg hu, hd_app _ (zln _)] at h
   have := ih (u / 10) (by omega) h
   omega
theorem number_dec (u : Nat) (h : u ≤ 9223372036854775807) : number (decDigits u) = some (u : Int) := by
 unfold number
 rw [if_neg, fold_dec u h]
 rintro ⟨h1, h2⟩
 obtain rfl := dec_hd u h1
 rw [decDigits, dif_pos (by decide)] at h2
 simp at h2
theorem zjn {c : UInt8} (h : zab (c.toNat : Int) = true) : ∃ d, d < 10 ∧ c = UInt8.ofNat (48 + d) ∧ (c.toNat : Int) - 48 = d := by
 simp only [zab, Bool.and_eq_true, decide_eq_true_eq] at h
 refine ⟨c.toNat - 48, by omega, ?_, by omega⟩
 apply UInt8.toNat_inj.mp
 rw [UInt8.toNat_ofNat']; omega
theorem fold_is : ∀ (ds : Bs) (n : Nat) (v : Int), 1 ≤ n → n ≤ 9223372036854775807 → (∀ c ∈ ds, zab (c.toNat : Int) = true) → zbc ds n = some v → ∃ u : Nat, v = u ∧ u ≤ 9223372036854775807 ∧ decDigits u = decDigits n ++ ds
 | [], n, v, _, h1, _, h => by cases h; exact ⟨n, rfl, h1, by simp⟩
 | c :: r, n, v, h0, h1, hd, h => by
  obtain ⟨d, hd1, hd2, hd3⟩ := zjn (hd c (by simp))
  unfold zbc at h
  rw [hd3] at h
  split at h
  ·cases h
  ·have e : ((n : Int) * 10 + (d : Int)) = ((n * 10 + d : Nat) : Int) := by omega
   rw [e] at h
   obtain ⟨u, h2, h3, h4⟩ := fold_is r (n * 10 + d) v (by omega) (by omega) (fun c hc => hd c (by simp [hc])) h
   refine ⟨u, h2, h3, ?_⟩
   rw [h4, decDigits, dif_neg (by omega), show (n * 10 + d) / 10 = n from by omega, show (n * 10 + d) % 10 = d from by omega, hd2]
   simp
theorem number_is (ds : Bs) (v : Int) (h0 : ds ≠ []) (hd : ∀ c ∈ ds, zab (c.toNat : Int) = true) (h : number ds = some v) : ∃ u : Nat, v = u ∧ u ≤ 9223372036854775807 ∧ ds = decDigits u := by
 cases ds with
 | nil => exact absurd rfl h0
 | cons c r =>
  obtain ⟨d, hd1, hd2, hd3⟩ := zjn (hd c (by simp))
  unfold number at h
  split at h
  ·cases h
  case isFalse hz =>
   unfold zbc at h
   rw [hd3] at h
   split at h
   ·cases h
   ·by_cases hd0 : d = 0
    ·have hr : r = [] := by
      cases r with
      | nil => rfl
      | cons x y =>
       exfalso; apply hz
       refine ⟨?_, by simp⟩
       show (c.toNat : Int) = 48
       omega
     subst hr hd0
     rw [show zbc [] ((0 : Int) * 10 + ((0 : Nat) : Int)) = some 0 from rfl] at h
     cases h
     refine ⟨0, rfl, by omega, ?_⟩
     rw [decDigits, dif_pos (by decide), hd2]
    ·have e : ((0 : Int) * 10 + (d : Int)) = ((d : Nat) : Int) := by omega
     rw [e] at h
     obtain ⟨u, h2, h3, h4⟩ := fold_is r d v (by omega) (by omega) (fun c hc => hd c (by simp [hc])) h
     refine ⟨u, h2, h3, ?_⟩
     rw [h4, decDigits, dif_pos hd1, hd2]; rfl
theorem digit_name {x : Int} (h : zax x = false) : zab x = false := by
 simp [zax] at h; exact h.1.2
theorem num_is {c : UInt8} {t : Bs} {k v : Int} {s : Bs} {m : Nat} (hc : zab (c.toNat : Int) = true) (h : zas (c :: t) = .inr (k, s, v, m)) :
  k = 4 ∧ s = [] ∧ ∃ u : Nat, v = u ∧ u ≤ 9223372036854775807 ∧ (c :: t).take m = decDigits u ∧ m = (decDigits u).length ∧ m ≤ (c :: t).length ∧ ((c :: t).drop m = [] ∨ zax (hd ((c :: t).drop m)) = false) := by
 unfold zas at h
 have hlen : zbr (c :: t) ≤ (c :: t).length := by have := zen zab t; simp [zbr]; omega
 split at h
 ·cases h
 ·rename_i v' hn
  split at h
  ·cases h
  ·rename_i hz
   cases h
   have hall : ∀ x ∈ (c :: t).take (zbr (c :: t)), zab (x.toNat : Int) = true := by
    intro x hx
    have e : zbr (c :: t) = zai zab t + 1 := by simp [zbr]; omega
    rw [e, List.take_succ_cons, List.mem_cons] at hx
    rcases hx with rfl | hx
    ·exact hc
    ·exact run_all zab t x hx
   obtain ⟨u, h1, h2, h3⟩ := number_is _ _ (by simp [zbr]) hall hn
   refine ⟨rfl, rfl, u, h1, h2, h3, ?_, hlen, ?_⟩
   ·rw [← h3]; simp; simp at hlen; omega
   ·by_cases h0 : (c :: t).drop (zbr (c :: t)) = []
    ·exact .inl h0
    ·exact .inr ((Bool.not_eq_true _).mp fun h => hz ⟨h0, h⟩)
theorem num_again (u : Nat) (r : Bs) (h : u ≤ 9223372036854775807) (hr : r = [] ∨ zax (hd r) = false) : zas (decDigits u ++ r) = .inr (4, [], (u : Int), (decDigits u).length) := by
 obtain ⟨c, t, hct⟩ := List.exists_cons_of_ne_nil (zln u)
 have hall := dec_digit u
 have hrd : r = [] ∨ zab (hd r) = false := or_map hr id digit_name
 have hl : zbr (decDigits u ++ r) = (decDigits u).length := by
  rw [hct]
  show 1 + zai zab (t ++ r) = _
  have e : zai zab t = t.length := run_of_all zab t fun x hx => hall x (by rw [hct]; simp [hx])
  have := run_stop zab t r hrd
  rw [e, List.take_length] at this
  rw [this, List.length_cons]; omega
 unfold zas
 rw [hl, List.take_left' rfl, number_dec u h]
 simp only
 rw [List.drop_left' rfl, if_neg]
 rintro ⟨h1, h2⟩
 rcases hr with rfl | hr
 ·exact h1 rfl
 ·rw [hr] at h2; cases h2
end Lx
namespace Lx
open Lib
theorem zls {l : Bs} (h : zab (hd l) = true) : cut l = zas l := by rw [cut, if_pos h]
theorem zlj {l : Bs} (h : hd l = 34) : cut l = zb6 l := by rw [cut, h, if_neg (by decide), if_pos rfl]
theorem zjc {l : Bs} (h1 : zab (hd l) = false) (h2 : hd l ≠ 34) (h3 : zeu (hd l) = true) : cut l = zc0 l := by
 rw [cut, if_neg (by rw [h1]; decide), if_neg h2, if_pos h3]
theorem zjg {l : Bs} (h1 : zab (hd l) = false) (h2 : hd l ≠ 34) (h3 : zeu (hd l) = false) : cut l = zbz l := by
 rw [cut, if_neg (by rw [h1]; decide), if_neg h2, if_neg (by rw [h3]; decide)]
theorem zay {t : Tok} (h4 : t.2.1 ≠ 4) (h5 : t.2.1 ≠ 5) : za5 t = t.2.2.1 := by rw [za5, if_neg h4, if_neg h5]
theorem zdw {a : Nat} {s : Bs} (u : Nat) : za5 (a, 4, s, (u : Int)) = decDigits u := by
 rw [za5, if_pos rfl, itoa, if_neg (by simp)]; rfl
theorem zcq {a : Nat} {s : Bs} {v : Int} : za5 (a, 5, s, v) = quote s := by
 rw [za5, if_neg (by simp), if_pos rfl]
theorem Halt.name {k : Int} {s r : Bs} (h : Halt k s r) (hk : k = 1 ∨ k = 2 ∨ k = 3 ∨ k = 4) : r = [] ∨ zax (hd r) = false := or_map h id fun h => h.1 hk
theorem self_of {l s : Bs} {k v : Int} {m : Nat} (hb : zbh (hd l) = true) (h0 : l ≠ []) (h : cut l = .inr (k, s, v, m)) (hm : m = l.length) : zb1 k l = true := by
 cases l with
 | nil => exact absurd rfl h0
 | cons c t => simp [zb1, hb, h, hm]
theorem cut_is {l : Bs} {k v : Int} {s : Bs} {m : Nat} (h0 : l ≠ []) (hb : zbh (hd l) = true) (h : cut l = .inr (k, s, v, m)) :
  ∃ r, l = za5 (0, k, s, v) ++ r ∧ m = (za5 (0, k, s, v)).length ∧ sound (0, k, s, v) = true ∧ 0 ≤ v ∧ v ≤ 9223372036854775807 ∧ 1 ≤ m ∧ Halt k s r := by
 obtain ⟨c, t, rfl⟩ := List.exists_cons_of_ne_nil h0
 by_cases h1 : zab (hd (c :: t)) = true
 ·rw [zls h1] at h
  obtain ⟨rfl, rfl, u, rfl, hu, h3, h4, h5, h6⟩ := num_is (c := c) h1 h
  rw [zdw]
  refine ⟨(c :: t).drop m, by rw [← h3, List.take_append_drop], h4, ?_, by omega, by omega, ?_, or_map h6 id fun h => ⟨fun _ => h, by omega⟩⟩
  ·simp [sound]
  ·have := List.length_pos_iff.2 (zln u); omega
 ·have h1 : zab (hd (c :: t)) = false := (Bool.not_eq_true _).mp h1
  by_cases h2 : hd (c :: t) = 34
  ·rw [zlj h2] at h
   unfold zb6 at h
   split at h
   ·cases h
   ·rename_i s' n he
    cases h
    obtain ⟨q, r, e1, e2, e3, e4⟩ := text_is _ _ _ _ _ he
    simp only [List.nil_append] at e1
    subst e1
    have hc : c = 34 := UInt8.toNat_inj.mp (by have e : (c.toNat : Int) = 34 := h2; simpa using (by omega : c.toNat = 34))
    have e3' : t = zgw s ++ 34 :: r := e3
    rw [zcq]
    refine ⟨r, by rw [hc, e3', quote]; simp, by rw [quote]; simp; omega, by simp [sound, e2], by omega, by omega, by omega, .inr ⟨by omega, by omega⟩⟩
  ·by_cases h3 : zeu (hd (c :: t)) = true
   ·rw [zjc h1 h2 h3] at h
    obtain ⟨rfl, rfl, hs, hm1, hm2, hh⟩ := sign_is h0 h
    rw [zay (by simp) (by simp)]
    have hsl : s.length = m := by rw [hs]; simp at hm2 ⊢; omega
    have hss : s ≠ [] := fun e => by rw [e] at hsl; simp at hsl; omega
    have hhd : hd s = hd (c :: t) := by
     rw [hs]
     obtain ⟨j, rfl⟩ : ∃ j, m = j + 1 := ⟨m - 1, by omega⟩
     rfl
    have hself : zb1 6 s = true := by
     have e := sign_again h0 h (.inl rfl : Halt 6 s [])
     rw [List.append_nil, ← hs] at e
     exact self_of (by rw [hhd]; exact hb) hss (by rw [zjc (by rw [hhd]; exact h1) (by rw [hhd]; exact h2) (by rw [hhd]; exact h3)]; exact e) hsl.symm
    refine ⟨(c :: t).drop m, ?_, hsl.symm, by simp [sound, hself], by omega, by omega, hm1, hh⟩
    have e := List.take_append_drop m (c :: t)
    rw [← hs] at e
    exact e.symm
   ·have h3 : zeu (hd (c :: t)) = false := (Bool.not_eq_true _).mp h3
    rw [zjg h1 h2 h3] at h
    obtain ⟨rfl, hm, hk, hs, rfl⟩ := name_is h
    have hm' : 1 + zai zax t ≤ 32 := hm
    have hkk := zlu s
    rw [← hk] at hkk
    rw [zay (by show k ≠ 4; omega) (by show k ≠ 5; omega)]
    have hsl : s.length = 1 + zai zax t := by rw [hs]; have := zen zax t; simp; omega
    have hss : s ≠ [] := fun e => by rw [e] at hsl; simp at hsl; omega
    have hhd : hd s = hd (c :: t) := by
     rw [hs, show 1 + zai zax (c :: t).tail = zai zax t + 1 from by simp; omega]
     rfl
    have hself : zb1 k s = true := by
     have e := name_again (c := c) hm' (.inl rfl : ([] : Bs) = [] ∨ zax (hd []) = false)
     have hs' : s = (c :: t).take (1 + zai zax t) := hs
     rw [List.append_nil, ← hs', ← hk] at e
     exact self_of (by rw [hhd]; exact hb) hss (by rw [zjg (by rw [hhd]; exact h1) (by rw [hhd]; exact h2) (by rw [hhd]; exact h3)]; exact e) hsl.symm
    refine ⟨(c :: t).drop (1 + zai zax t), ?_, hsl.symm, ?_, by omega, by omega, by omega, ?_⟩
    ·have e := List.take_append_drop (1 + zai zax t) (c :: t)
     have hs' : s = (c :: t).take (1 + zai zax t) := hs
     rw [← hs'] at e
     exact e.symm
    ·have hk4 : k = 1 ∨ k = 2 ∨ k = 3 ∨ k = 6 := by omega
     simp [sound, hk4, hself]
    ·have := run_rest zax t
     rw [Nat.add_comm, List.drop_succ_cons]
     exact or_map this id fun h => ⟨fun _ => h, by omega⟩
theorem sound_cut {t : Tok} {r : Bs} (hs : sound t = true) (hv : t.2.2.2 ≤ 9223372036854775807) (hr : Halt t.2.1 t.2.2.1 r) :
  za5 t ≠ [] ∧ zbh (hd (za5 t)) = true ∧ cut (za5 t ++ r) = .inr (t.2.1, t.2.2.1, t.2.2.2, (za5 t).length) := by
 obtain ⟨a, k, s, v⟩ := t
 simp only at hv hr ⊢
 unfold sound at hs
 simp only at hs
 split at hs
 ·rename_i hk
  rw [Bool.and_eq_true] at hs
  obtain ⟨hv0, hself⟩ := hs
  obtain rfl : v = 0 := by simpa using hv0
  rw [zay (by show k ≠ 4; omega) (by show k ≠ 5; omega)]
  simp only
  cases s with
  | nil => simp [zb1] at hself
  | cons c t =>
   unfold zb1 at hself
   simp only [Bool.and_eq_true] at hself
   obtain ⟨hb, hself⟩ := hself
   refine ⟨by simp, hb, ?_⟩
   have hhd : hd (c :: t ++ r) = hd (c :: t) := rfl
   split at hself
   ·cases hself
   ·rename_i k' s' v' n hc
    simp only [Bool.and_eq_true, beq_iff_eq] at hself
    obtain ⟨hn, rfl⟩ := hself
    by_cases h1 : zab (hd (c :: t)) = true
    ·rw [zls h1] at hc
     have := (num_is (c := c) h1 hc).1
     omega
    ·have h1 : zab (hd (c :: t)) = false := (Bool.not_eq_true _).mp h1
     by_cases h2 : hd (c :: t) = 34
     ·rw [zlj h2] at hc
      unfold zb6 at hc
      split at hc
      ·cases hc
      ·cases hc; omega
     ·by_cases h3 : zeu (hd (c :: t)) = true
      ·rw [zjc h1 h2 h3] at hc
       obtain ⟨rfl, rfl, hs, _, _, _⟩ := sign_is (by simp) hc
       rw [hn, List.take_length] at hs
       rw [hs] at hc
       have e := sign_again (by simp) hc hr
       rw [hn, List.take_length] at e
       rw [zjc (by rw [hhd]; exact h1) (by rw [hhd]; exact h2) (by rw [hhd]; exact h3), e]
      ·have h3 : zeu (hd (c :: t)) = false := (Bool.not_eq_true _).mp h3
       rw [zjg h1 h2 h3] at hc
       obtain ⟨hm, hm32, hk', hs, rfl⟩ := name_is hc
       rw [hn, List.take_length] at hs
       have hm' : n = 1 + zai zax t := hm
       have hkk := zlu s'
       rw [← hk'] at hkk
       have e := name_again (c := c) (t := t) (r := r) (by omega) (hr.name (by omega))
       rw [← hm', hn, List.take_length] at e
       rw [zjg (by rw [hhd]; exact h1) (by rw [hhd]; exact h2) (by rw [hhd]; exact h3), e, hk', hs]
 ·split at hs
  ·rename_i hk
   subst hk
   simp only [Bool.and_eq_true, decide_eq_true_eq, List.isEmpty_iff] at hs
   obtain ⟨rfl, h0⟩ := hs
   obtain ⟨u, rfl⟩ : ∃ u : Nat, v = u := ⟨v.toNat, by omega⟩
   rw [zdw]
   have hd1 : zab (hd (decDigits u)) = true := by
    obtain ⟨c, t, hct⟩ := List.exists_cons_of_ne_nil (zln u)
    have := dec_digit u c (by rw [hct]; simp)
    rw [hct]; exact this
   refine ⟨zln u, by simp [zbh, hd1], ?_⟩
   rw [zls (by rw [hd_app _ (zln u)]; exact hd1), num_again u r (by omega) (hr.name (by omega))]
  ·split at hs
   ·rename_i hk
    subst hk
    simp only [Bool.and_eq_true, beq_iff_eq] at hs
    obtain ⟨rfl, h0⟩ := hs
    rw [zcq]
    refine ⟨by simp [quote], by rfl, ?_⟩
    have e : quote s ++ r = 34 :: (zgw s ++ 34 :: r) := by simp [quote]
    rw [e, zlj rfl]
    unfold zb6
    rw [List.tail_cons, text_again s r 1 [] h0]
    simp [quote]; omega
   ·cases hs
end Lx
namespace Lx
open Lib
def Lay : Bs → Nat → List Tok → Prop
 | l, _, [] => l.drop (skip l) = []
 | l, a, t :: ts => l.drop (skip l) ≠ [] ∧ zbh (hd (l.drop (skip l))) = true ∧ t.1 = a + skip l ∧ ∃ m, cut (l.drop (skip l)) = .inr (t.2.1, t.2.2.1, t.2.2.2, m) ∧ Lay (l.drop (skip l + m)) (a + skip l + m) ts
theorem Lay.done (l : Bs) (a : Nat) (h : l.drop (skip l) = []) : Lay l a [] := h
theorem Lay.tok (l : Bs) (a : Nat) (k v : Int) (s : Bs) (m : Nat) (ts : List Tok) (h0 : l.drop (skip l) ≠ []) (hb : zbh (hd (l.drop (skip l))) = true) (hc : cut (l.drop (skip l)) = .inr (k, s, v, m))
  (hl : Lay (l.drop (skip l + m)) (a + skip l + m) ts) : Lay l a ((a + skip l, k, s, v) :: ts) := ⟨h0, hb, rfl, m, hc, hl⟩
theorem Lay.back {l : Bs} {a : Nat} {ts : List Tok} (h : Lay l a ts) : (l.drop (skip l) = [] ∧ ts = []) ∨
  ∃ k v s m us, l.drop (skip l) ≠ [] ∧ zbh (hd (l.drop (skip l))) = true ∧ cut (l.drop (skip l)) = .inr (k, s, v, m) ∧ Lay (l.drop (skip l + m)) (a + skip l + m) us ∧ ts = (a + skip l, k, s, v) :: us := by
 cases ts with
 | nil => exact .inl ⟨h, rfl⟩
 | cons t us =>
  obtain ⟨p, k, s, v⟩ := t
  obtain ⟨h0, hb, he, m, hc, hl⟩ := h
  have he' : p = a + skip l := he
  subst he'
  exact .inr ⟨k, v, s, m, us, h0, hb, hc, hl, rfl⟩
theorem Lay.ind {motive : ∀ (l : Bs) (a : Nat) (ts : List Tok), Lay l a ts → Prop} (done : ∀ (l : Bs) (a : Nat) (h : l.drop (skip l) = []), motive l a [] (Lay.done l a h))
  (tok : ∀ (l : Bs) (a : Nat) (k v : Int) (s : Bs) (m : Nat) (ts : List Tok) (h0 : l.drop (skip l) ≠ []) (hb : zbh (hd (l.drop (skip l))) = true) (hc : cut (l.drop (skip l)) = .inr (k, s, v, m))
   (hl : Lay (l.drop (skip l + m)) (a + skip l + m) ts), motive _ _ ts hl → motive l a ((a + skip l, k, s, v) :: ts) (Lay.tok l a k v s m ts h0 hb hc hl)) :
  ∀ {l : Bs} {a : Nat} {ts : List Tok} (h : Lay l a ts), motive l a ts h := by
 intro l a ts
 induction ts generalizing l a with
 | nil => exact fun h => done l a h
 | cons t us ih =>
  intro h
  obtain ⟨p, k, s, v⟩ := t
  have h' := h
  obtain ⟨h0, hb, he, m, hc, hl⟩ := h'
  have he' : p = a + skip l := he
  subst he'
  exact tok l a k v s m us h0 hb hc hl (ih hl)
theorem cut_size {l : Bs} {k v : Int} {s : Bs} {m : Nat} (h0 : l ≠ []) (hb : zbh (hd l) = true) (h : cut l = .inr (k, s, v, m)) : 1 ≤ m ∧ m ≤ l.length := by
 obtain ⟨r, h1, h2, _, _, _, h3, _⟩ := cut_is h0 hb h
 refine ⟨h3, ?_⟩
 rw [h1, List.length_append]; omega
theorem lexF_of_lay {l : Bs} {a : Nat} {ts : List Tok} (h : Lay l a ts) : ∀ f n, l.length < f → n + ts.length ≤ 4096 → lexF f l a n = (ts, none) := by
 induction h using Lay.ind with
 | done l a h =>
  intro f n hf _
  obtain ⟨f, rfl⟩ : ∃ g, f = g + 1 := ⟨f - 1, by omega⟩
  rw [lexF, if_pos h]
 | tok l a k v s m ts h0 hb hc hl ih =>
  intro f n hf hn
  obtain ⟨f, rfl⟩ : ∃ g, f = g + 1 := ⟨f - 1, by omega⟩
  obtain ⟨hm1, hm2⟩ := cut_size h0 hb hc
  simp only [List.length_cons] at hn
  rw [lexF, if_neg h0, next, if_neg (by rw [hb]; decide), if_neg (by omega), hc]
  simp only
  rw [ih f (n + 1) (by simp at hm2 ⊢; omega) (by omega)]
theorem zlm : ∀ (f : Nat) (l : Bs) (a n : Nat) (ts : List Tok), lexF f l a n = (ts, none) → l.length < f → Lay l a ts ∧ (ts = [] ∨ n + ts.length ≤ 4096)
 | 0, l, a, n, ts, _, hf => by omega
 | f + 1, l, a, n, ts, h, hf => by
  rw [lexF] at h
  split at h
  ·rename_i h0
   cases h
   exact ⟨.done l a h0, .inl rfl⟩
  ·rename_i h0
   split at h
   ·cases h
   ·rename_i k s v m hnx
    have hb : zbh (hd (l.drop (skip l))) = true := by
     rcases Bool.eq_false_or_eq_true (zbh (hd (l.drop (skip l)))) with e | e
     ·exact e
     ·rw [next, if_pos e] at hnx; cases hnx
    rw [next, if_neg (by rw [hb]; decide)] at hnx
    split at hnx
    ·cases hnx
    ·rename_i hn
     obtain ⟨hm1, hm2⟩ := cut_size h0 hb hnx
     generalize hr : lexF f (l.drop (skip l + m)) (a + skip l + m) (n + 1) = R at h
     obtain ⟨ts', e⟩ := R
     simp only [Prod.mk.injEq] at h
     obtain ⟨rfl, rfl⟩ := h
     obtain ⟨h1, h2⟩ := zlm f _ _ _ _ hr (by simp at hm2 ⊢; omega)
     refine ⟨.tok l a k v s m ts' h0 hb hnx h1, .inr ?_⟩
     rcases h2 with rfl | h2
     ·simp; omega
     ·simp; omega
theorem lex_ok {l : Bs} {ts : List Tok} (h : lex l = (ts, none)) : l.length ≤ 65536 ∧ Lay l 0 ts ∧ ts.length ≤ 4096 := by
 unfold lex at h
 split at h
 ·cases h
 ·rename_i hl
  obtain ⟨h1, h2⟩ := zlm _ _ _ _ _ h (by omega)
  refine ⟨by omega, h1, ?_⟩
  rcases h2 with rfl | h2
  ·simp
  ·omega
theorem lex_of {l : Bs} {ts : List Tok} (hl : l.length ≤ 65536) (h : Lay l 0 ts) (hn : ts.length ≤ 4096) : lex l = (ts, none) := by
 rw [lex, if_neg (by omega)]
 exact lexF_of_lay h _ _ (by omega) (by omega)
theorem begin_skip {x : Bs} (h : zbh (hd x) = true) : skip x = 0 ∧ x.head? ≠ some 47 := by
 cases x with
 | nil => exact ⟨rfl, by simp⟩
 | cons c r =>
  have hc : zbh (c.toNat : Int) = true := h
  have h47 : c ≠ 47 := by rintro rfl; revert hc; decide
  have hb : zgc (c.toNat : Int) = false := by
   rw [Bool.eq_false_iff]
   intro hb
   simp only [zgc, Bool.or_eq_true, beq_iff_eq] at hb
   rcases hb with ((hb | hb) | hb) | hb <;> (rw [hb] at hc; revert hc; decide)
  refine ⟨?_, by simpa using h47⟩
  rw [skip, zdr, if_neg (by rw [hb]; decide), if_neg (fun h => h47 h.1)]
end Lx
namespace Lx
open Lib
theorem escs_le (q : Bs) : q.length ≤ (zgw q).length := by
 induction q with
 | nil => simp
 | cons c q ih =>
  rw [zct, List.length_append, List.length_cons]
  have : 1 ≤ (zka c).length := by
   unfold zka
   repeat' split
   all_goals simp
  omega
theorem own_le {t : Tok} (h : sound t = true) : t.2.2.1.length ≤ (za5 t).length := by
 obtain ⟨a, k, s, v⟩ := t
 by_cases h4 : k = 4
 ·subst h4
  simp [sound] at h
  simp [h.1]
 ·by_cases h5 : k = 5
  ·subst h5
   rw [zcq, quote]
   have := escs_le s
   simp; omega
  ·rw [zay h4 h5]; exact Nat.le_refl _
theorem join_one {t : Tok} (hs : sound t = true) (hl : (za5 t).length ≤ 65536) : join [t] = .inr (za5 t) := by
 have := own_le hs
 have e : zev [t] 0 [] = some (za5 t) := by
  simp only [zev, Nat.lt_irrefl, if_false, List.append_nil, List.length_nil, List.nil_append, Nat.zero_add]
  rw [if_neg (by omega), if_neg (by omega)]
 rw [join, if_neg (by simp [hs]), e]
 simp
def zfd (ts : List Tok) : Bs := ts.flatMap fun t => 32 :: za5 t
theorem joinW_is : ∀ (ts : List Tok) (i : Nat) (acc l : Bs), 0 < i → zev ts i acc = some l → l = acc ++ zfd ts ∧ (acc.length ≤ 65536 → l.length ≤ 65536)
 | [], i, acc, l, _, h => by cases h; simp [zfd]
 | t :: r, i, acc, l, hi, h => by
  rw [zev, if_pos hi] at h
  split at h
  ·cases h
  ·split at h
   ·cases h
   ·rename_i _ h2
    obtain ⟨h3, h4⟩ := joinW_is r (i + 1) _ l (by omega) h
    refine ⟨by rw [h3]; simp [zfd], fun _ => h4 (by omega)⟩
def mixed (gs : List (Bs × Tok)) : Bs := gs.flatMap fun p => p.1 ++ za5 p.2
end Lx
namespace Lx
open Lib
theorem num_sound (u : Nat) : sound (0, 4, [], (u : Int)) = true := by simp [sound]
end Lx
end Go.Proofs.YtmpbbmfbgcpplaaGreatDoor
