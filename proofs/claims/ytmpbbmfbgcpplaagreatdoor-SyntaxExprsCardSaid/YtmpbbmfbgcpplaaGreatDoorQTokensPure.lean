/-
  Texts that were joined, cut and joined again; statements' texts one behind another. No world.
-/
import Derived.Test.YtmpbbmfbgcpplaaGreatDoorQSizeG
import Derived.Test.YtmpbbmfbgcpplaaGreatDoorQPartsG
namespace Go.Proofs.YtmpbbmfbgcpplaaGreatDoor
open Go Go.RowKit Lx

theorem joinW_bare : ∀ (us ts : List Tok) (i : Nat) (acc : Bs), us.map (·.2) = ts.map (·.2) → joinW us i acc = joinW ts i acc
  | [], [], _, _, _ => rfl
  | [], _ :: _, _, _, h => by simp at h
  | _ :: _, [], _, _, h => by simp at h
  | u :: us, t :: ts, i, acc, h => by
    rw [List.map_cons, List.map_cons] at h
    injection h with h1 h2
    have e1 : tokText u = tokText t := by unfold tokText; rw [h1]
    rw [joinW, joinW, e1, h1]
    generalize acc ++ (if 0 < i then [32] else []) = P
    by_cases c1 : 65536 < P.length + t.2.2.1.length
    · rw [if_pos c1, if_pos c1]
    · rw [if_neg c1, if_neg c1]
      by_cases c2 : 65536 < (P ++ tokText t).length
      · rw [if_pos c2, if_pos c2]
      · rw [if_neg c2, if_neg c2]
        exact joinW_bare us ts _ _ h2
theorem all_bare : ∀ (us ts : List Tok), us.map (·.2) = ts.map (·.2) → us.all sound = ts.all sound
  | [], [], _ => rfl
  | [], _ :: _, h => by simp at h
  | _ :: _, [], h => by simp at h
  | u :: us, t :: ts, h => by
    rw [List.map_cons, List.map_cons] at h
    injection h with h1 h2
    have e1 : sound u = sound t := by unfold sound; rw [h1]
    rw [List.all_cons, List.all_cons, e1, all_bare us ts h2]
/-- what was joined is cut into tokens that, joined, are it. -/
theorem join_again {ts : List Tok} {l : Bs} (h : join ts = .inr l) (hF : Fits ts) : l.length ≤ 65536 ∧ ∃ us, lex l = (us, none) ∧ join us = .inr l ∧ Fits us ∧ us.length ≤ 4096 := by
  obtain ⟨us, h1, h2⟩ := join_lex h fun t ht => (hF t ht).2.2
  obtain ⟨_, hn, hl, _⟩ := join_is h
  have hlen : us.length = ts.length := by simpa using congrArg List.length h2
  refine ⟨hl, us, h1, ?_, fun t ht => ?_, by omega⟩
  · rw [← h, join, join, all_bare us ts h2, joinW_bare us ts _ _ h2, hlen]
  · have : t.2 ∈ ts.map (·.2) := by rw [← h2]; exact List.mem_map.2 ⟨t, ht, rfl⟩
    obtain ⟨u, hu, e⟩ := List.mem_map.1 this
    have := hF u hu
    rw [e] at this
    exact this
theorem jtext_len {l : List Tok} (h : l ≠ []) : (jtext l).length + 1 = (spaced l).length := by rw [spaced_ne h]; simp
theorem jtext_app {a b : List Tok} (ha : a ≠ []) (hb : b ≠ []) : jtext (a ++ b) = jtext a ++ [32] ++ jtext b := by
  cases a with
  | nil => exact absurd rfl ha
  | cons t r => rw [List.cons_append, jtext, jtext, spaced_append, spaced_ne hb]; simp
/-- sound tokens that are few and whose text is short are joined. -/
theorem join_to2 {ts : List Tok} (hs : ts.all sound = true) (hn : ts.length ≤ 4096) (hl : (jtext ts).length ≤ 65536) : join ts = .inr (jtext ts) := by
  have hw : joinW ts 0 [] = some (jtext ts) := by
    cases ts with
    | nil => rfl
    | cons t r =>
      rw [List.all_cons, Bool.and_eq_true] at hs
      have h1 := own_le hs.1
      rw [jtext, List.length_append] at hl
      simp only [joinW, Nat.lt_irrefl, if_false, List.append_nil, List.length_nil, List.nil_append, Nat.zero_add]
      rw [if_neg (by omega), if_neg (by omega), joinW_to r 1 _ (by omega) hs.2 (by omega), jtext]
  rw [join, if_neg (by rw [hs]; simp), hw]
  simp only
  rw [if_neg (by omega)]
theorem put_full : ∀ (l ts : List Tok), 32769 ≤ ts.length → putAll ts l = ts
  | [], _, _ => rfl
  | x :: l, ts, h => by rw [putAll_cons, putT, if_neg (by omega)]; exact put_full l ts h
/-- where a writer's tokens are joined, it has all of them. -/
theorem put_join {l : List Tok} {s : Bs} (h : join (putAll [] l) = .inr s) : putAll [] l = l ∧ l.length ≤ 4096 := by
  obtain ⟨_, hn, _, _⟩ := join_is h
  rcases Nat.lt_or_ge 32769 l.length with hl | hl
  · exfalso
    have e : l = l.take 32769 ++ l.drop 32769 := (List.take_append_drop _ _).symm
    have hl2 : (l.take 32769).length = 32769 := by rw [List.length_take]; omega
    have h1 : putAll [] l = putAll [] (l.take 32769 ++ l.drop 32769) := by rw [← e]
    rw [h1, putAll_append, putAll_all (l.take 32769) [] (by rw [hl2]; simp), List.nil_append, put_full _ _ (by omega)] at hn
    omega
  · have e := putAll_all l [] (by simpa using hl)
    rw [List.nil_append] at e
    rw [e] at hn
    exact ⟨e, hn⟩
theorem stT_ne (K : Int) (S : Bs) (ty x b e : List Tok) (ne : Nat) : stT K S ty x b e ne ≠ [] := by
  unfold stT
  by_cases h4 : K = 4
  · rw [if_pos h4]; simp
  · rw [if_neg h4]
    by_cases h5 : K = 5
    · rw [if_pos h5]; simp
    · rw [if_neg h5]; simp
theorem stTks_cons (D d m : Nat) (ss : List (St D d (m + 1))) : stTks D d (m + 1) ss = ss.flatMap (stTk D d m) := rfl
/-- the text of the first k statements. -/
def firstT (D d m : Nat) (ss : List (St D d (m + 1))) (k : Nat) : Bs := jtext ((ss.take k).flatMap (stTk D d m))
theorem flat_ne {D d m : Nat} {ss : List (St D d (m + 1))} {k : Nat} (hk : 0 < k) (hl : 0 < ss.length) : (ss.take k).flatMap (stTk D d m) ≠ [] := by
  cases ss with
  | nil => simp at hl
  | cons s r =>
    obtain ⟨j, rfl⟩ : ∃ j, k = j + 1 := ⟨k - 1, by omega⟩
    rw [List.take_succ_cons, List.flatMap_cons]
    intro h
    exact stT_ne _ _ _ _ _ _ _ (List.append_eq_nil_iff.1 h).1
theorem firstT_succ {D d m : Nat} {ss : List (St D d (m + 1))} {k : Nat} (h : k < ss.length) : firstT D d m ss (k + 1) = if 0 < k then firstT D d m ss k ++ [32] ++ jtext (stTk D d m ss[k]) else jtext (stTk D d m ss[k]) := by
  unfold firstT
  rw [List.take_succ_eq_append_getElem h, List.flatMap_append, List.flatMap_cons, List.flatMap_nil, List.append_nil]
  by_cases hk : 0 < k
  · rw [if_pos hk]
    exact jtext_app (flat_ne hk (by omega)) (stT_ne _ _ _ _ _ _ _)
  · rw [if_neg hk]
    obtain rfl : k = 0 := by omega
    simp
/-- of statements whose text is told: each one's text is told, and they are put together to it. -/
theorem stmts_told {D d m : Nat} {ss : List (St D d (m + 1))} {s : Bs} (h : stmtsAns D d (m + 1) ss = .inr s) :
    s = firstT D d m ss ss.length ∧ s.length ≤ 65536 ∧ (∀ k, k ≤ ss.length → (firstT D d m ss k).length ≤ 65536) ∧ ∀ k (hk : k < ss.length), stmtsAns D d (m + 1) [ss[k]] = .inr (jtext (stTk D d m ss[k])) := by
  unfold stmtsAns at h
  split at h
  · rename_i hr
    obtain ⟨e, hn⟩ := put_join h
    rw [e] at h
    obtain ⟨h1, _, h3, h4⟩ := join_is h
    have hs : s = jtext (stTks D d (m + 1) ss) := (join_of h).2
    rw [stTks_cons] at hs hn h1
    have hfull : firstT D d m ss ss.length = s := by rw [firstT, List.take_length, ← hs]
    have hsub : ∀ (a b c : List Tok), ss.flatMap (stTk D d m) = a ++ b ++ c → b ≠ [] → (jtext b).length ≤ 65536 ∧ b.length ≤ 4096 ∧ b.all sound = true := fun a b c hab hb => by
      have hne : ss.flatMap (stTk D d m) ≠ [] := by rw [hab]; intro h; exact hb (by simp at h; exact h.2.1)
      have e1 := jtext_len hne
      rw [← hs] at e1
      rw [hab, spaced_append, spaced_append, List.length_append, List.length_append] at e1
      have e2 := jtext_len hb
      rw [hab] at hn h1
      simp only [List.length_append] at hn
      simp only [List.all_append, Bool.and_eq_true] at h1
      exact ⟨by omega, by omega, h1.1.2⟩
    refine ⟨hfull.symm, h3, fun k hk => ?_, fun k hk => ?_⟩
    · rcases Nat.eq_zero_or_pos k with rfl | hk0
      · simp [firstT, jtext]
      · rcases Nat.eq_zero_or_pos ss.length with h0 | h0
        · omega
        · have := hsub [] ((ss.take k).flatMap (stTk D d m)) ((ss.drop k).flatMap (stTk D d m)) (by rw [List.nil_append, ← List.flatMap_append, List.take_append_drop]) (flat_ne hk0 h0)
          exact this.1
    · have hsp : ss.flatMap (stTk D d m) = (ss.take k).flatMap (stTk D d m) ++ stTk D d m ss[k] ++ (ss.drop (k + 1)).flatMap (stTk D d m) := by
        have : ss = ss.take k ++ (ss[k] :: ss.drop (k + 1)) := by rw [← List.drop_eq_getElem_cons hk, List.take_append_drop]
        conv => lhs; rw [this]
        rw [List.flatMap_append, List.flatMap_cons, List.append_assoc]
      obtain ⟨t1, t2, t3⟩ := hsub _ _ _ hsp (stT_ne _ _ _ _ _ _ _)
      have hr1 : rightSs D d (m + 1) 64 [ss[k]] = true := by
        rw [rightSs, List.all_eq_true] at hr
        rw [rightSs, List.all_cons, List.all_nil, Bool.and_true]
        exact hr _ (List.getElem_mem hk)
      have et : stTks D d (m + 1) [ss[k]] = stTk D d m ss[k] := by rw [stTks_cons, List.flatMap_cons, List.flatMap_nil, List.append_nil]
      rw [stmtsAns, if_pos hr1, et, putAll_all _ _ (by simp; omega), List.nil_append, join_to2 t3 t2 t1]
  · cases h
/-- small expressions fit. -/
theorem exfits_of {D : Nat} : ∀ {d : Nat} {xs : List (Ex D d)}, szXL D d xs ≤ 1000000 → ExWf D d xs → ExFits D d xs
  | 0, _, _, _ => trivial
  | d + 1, xs, hz, hw => by
    have hlen : xs.length ≤ szXL D (d + 1) xs := by
      clear hz hw
      induction xs with
      | nil => simp
      | cons x r ih =>
        have : 1 ≤ szX D (d + 1) x := by rw [szX]; omega
        simp only [szXL, List.map_cons, List.sum_cons, List.length_cons] at ih ⊢
        omega
    refine ⟨by omega, fun x hx => ?_⟩
    have h1 : szX D (d + 1) x ≤ szXL D (d + 1) xs := mem_sum (List.mem_map.2 ⟨x, hx, rfl⟩)
    rw [szX] at h1
    obtain ⟨⟨w1, w2, w3⟩, w4, w5, w6, w7⟩ := hw.2 x hx
    have h2 : szXL D d (xPs x) ≤ 1000000 := by unfold szXL; omega
    have hf := exfits_of h2 w7
    have h3 : (xPs x).length ≤ 1000000 := by
      match d, x, hf with
      | 0, x, _ =>
        rcases hx : xPs x with _ | ⟨y, _⟩
        · simp
        · exact nomatch y
      | d + 1, x, hf => exact hf.1
    have h4 := Nat.le_trans (len_many _ (xT x)) (many_szL _ (xT x))
    exact ⟨⟨by omega, by omega, fits_of_sz (by omega), by omega, fun s hs => by have := sumL_mem hs; omega, h3, w2, w3⟩, hf⟩
theorem exlen_of {D : Nat} : ∀ {d : Nat} {xs : List (Ex D d)}, ExFits D d xs → xs.length ≤ 1000000
  | 0, [], _ => by simp
  | 0, x :: _, _ => nomatch x
  | _ + 1, _, h => h.1
theorem stlen_of {D d : Nat} : ∀ {m : Nat} {ss : List (St D d m)}, StFits D d m ss → ss.length ≤ 1000000
  | 0, [], _ => by simp
  | 0, x :: _, _ => nomatch x
  | _ + 1, _, h => h.1
/-- small statements fit. -/
theorem stfits_of {D d : Nat} : ∀ {m : Nat} {ss : List (St D d m)}, szSs D d m ss ≤ 1000000 → StWf D d m ss → StFits D d m ss
  | 0, _, _, _ => trivial
  | m + 1, ss, hz, hw => by
    have hlen : ss.length ≤ szSs D d (m + 1) ss := by
      clear hz hw
      rw [szSs]
      induction ss with
      | nil => simp
      | cons x r ih =>
        simp only [List.map_cons, List.sum_cons, List.length_cons]
        omega
    refine ⟨by omega, fun s hs => ?_⟩
    have h1 : 1 + (sName s).length + szL D (sT s) + szXL D d (sX s) + szSs D d m (sB s) + szSs D d m (sE s) ≤ szSs D d (m + 1) ss := by
      rw [szSs]; exact mem_sum (List.mem_map.2 ⟨s, hs, rfl⟩)
    obtain ⟨w1, w2, w3, w4, w5⟩ := hw.2 s hs
    have hx := exfits_of (by omega) w3
    have hb := stfits_of (show szSs D d m (sB s) ≤ 1000000 by omega) w4
    have he := stfits_of (show szSs D d m (sE s) ≤ 1000000 by omega) w5
    have h4 := Nat.le_trans (len_many _ (sT s)) (many_szL _ (sT s))
    exact ⟨⟨by omega, fits_of_sz (by omega), by omega, hx, exlen_of hx, stlen_of hb, stlen_of he⟩, hb, he⟩
end Go.Proofs.YtmpbbmfbgcpplaaGreatDoor
