/-
  coilref1.number, walked: digits, reckoned in uint64.
-/
import Derived.Test.YthplgkkailieoaaGreatDoorRefName
namespace Go.Proofs.YthplgkkailieoaaGreatDoor
namespace Lx
/-- digits as a number, whatever its size. -/
def digVal : Bs → Nat → Nat
  | [], u => u
  | c :: r, u => digVal r (u * 10 + (c.toNat - 48))
theorem digVal_ge : ∀ (l : Bs) (u : Nat), u ≤ digVal l u
  | [], _ => Nat.le_refl _
  | c :: r, u => by have := digVal_ge r (u * 10 + (c.toNat - 48)); rw [digVal]; omega
theorem digVal_app : ∀ (a b : Bs) (u : Nat), digVal (a ++ b) u = digVal b (digVal a u)
  | [], _, _ => rfl
  | _ :: a, b, _ => digVal_app a b _
theorem digVal_lt : ∀ (l : Bs) (u : Nat), (∀ c ∈ l, digitB (c.toNat : Int) = true) → digVal l u < (u + 1) * 10 ^ l.length
  | [], u, _ => by simp [digVal]
  | c :: r, u, h => by
    have hc : digitB (c.toNat : Int) = true := h c (by simp)
    simp only [digitB, Bool.and_eq_true, decide_eq_true_eq] at hc
    have := digVal_lt r (u * 10 + (c.toNat - 48)) (fun x hx => h x (by simp [hx]))
    rw [digVal, List.length_cons, Nat.pow_succ, Nat.mul_comm (10 ^ r.length), ← Nat.mul_assoc]
    refine Nat.lt_of_lt_of_le this (Nat.mul_le_mul_right _ (by omega))
/-- numFold is that number, where it fits. -/
theorem fold_val : ∀ (l : Bs) (u : Nat), (∀ c ∈ l, digitB (c.toNat : Int) = true) → numFold l (u : Int) = if digVal l u ≤ 9223372036854775807 ∨ l = [] then some (digVal l u : Int) else none
  | [], u, _ => by simp [numFold, digVal]
  | c :: r, u, h => by
    have hc : digitB (c.toNat : Int) = true := h c (by simp)
    simp only [digitB, Bool.and_eq_true, decide_eq_true_eq] at hc
    have ih := fold_val r (u * 10 + (c.toNat - 48)) (fun x hx => h x (by simp [hx]))
    have e : ((u : Int) * 10 + ((c.toNat : Int) - 48)) = ((u * 10 + (c.toNat - 48) : Nat) : Int) := by omega
    rw [numFold, digVal, e, ih]
    have hge := digVal_ge r (u * 10 + (c.toNat - 48))
    by_cases hv : digVal r (u * 10 + (c.toNat - 48)) ≤ 9223372036854775807
    · rw [if_neg (by omega), if_pos (.inl hv), if_pos (.inl hv)]
    · have hr : (if digVal r (u * 10 + (c.toNat - 48)) ≤ 9223372036854775807 ∨ c :: r = [] then some (digVal r (u * 10 + (c.toNat - 48)) : Int) else none) = none := if_neg (by simp [hv])
      rw [hr]
      by_cases hq : (9223372036854775807 - ((c.toNat : Int) - 48)) / 10 < (u : Int)
      · rw [if_pos hq]
      · rw [if_neg hq]
        cases r with
        | nil =>
          exfalso
          apply hv
          show u * 10 + (c.toNat - 48) ≤ _
          omega
        | cons d r => rw [if_neg (by simp [hv])]
theorem number_val {ds : Bs} (h : ∀ c ∈ ds, digitB (c.toNat : Int) = true) (h0 : ds ≠ []) : number ds = if (hd ds = 48 ∧ 1 < ds.length) ∨ ¬ digVal ds 0 ≤ 9223372036854775807 then none else some (digVal ds 0 : Int) := by
  unfold number
  by_cases hz : hd ds = 48 ∧ 1 < ds.length
  · rw [if_pos hz, if_pos (.inl hz)]
  · rw [if_neg hz]
    have := fold_val ds 0 h
    rw [show ((0 : Nat) : Int) = 0 from rfl] at this
    rw [this]
    by_cases hv : digVal ds 0 ≤ 9223372036854775807
    · rw [if_pos (.inl hv), if_neg (by simp [hz, hv])]
    · rw [if_neg (by simp [hv, h0]), if_pos (.inr hv)]
/-- a number without a nought ahead has its digits' size. -/
theorem digVal_big : ∀ (l : Bs) (u : Nat), (∀ c ∈ l, digitB (c.toNat : Int) = true) → u * 10 ^ l.length ≤ digVal l u
  | [], u, _ => by simp [digVal]
  | c :: r, u, h => by
    have := digVal_big r (u * 10 + (c.toNat - 48)) (fun x hx => h x (by simp [hx]))
    rw [digVal, List.length_cons, Nat.pow_succ, Nat.mul_comm (10 ^ r.length), ← Nat.mul_assoc]
    exact Nat.le_trans (Nat.mul_le_mul_right _ (by omega)) this
theorem digVal_19 {l : Bs} (h : ∀ c ∈ l, digitB (c.toNat : Int) = true) (hl : l.length ≤ 19) : digVal l 0 < 10000000000000000000 := by
  have h1 := digVal_lt l 0 h
  have h2 : 10 ^ l.length ≤ 10 ^ 19 := Nat.pow_le_pow_right (by omega) hl
  rw [show (10 : Nat) ^ 19 = 10000000000000000000 from by decide] at h2
  omega
/-- twenty digits: a nought ahead, or too great. -/
theorem digVal_20 {l : Bs} (h : ∀ c ∈ l, digitB (c.toNat : Int) = true) (hl : 20 ≤ l.length) : (hd l = 48 ∧ 1 < l.length) ∨ ¬ digVal l 0 ≤ 9223372036854775807 := by
  cases l with
  | nil => simp at hl
  | cons c r =>
    have hc : digitB (c.toNat : Int) = true := h c (by simp)
    simp only [digitB, Bool.and_eq_true, decide_eq_true_eq] at hc
    rw [List.length_cons] at hl
    by_cases hz : hd (c :: r) = 48
    · exact .inl ⟨hz, by rw [List.length_cons]; omega⟩
    · right
      have hz' : (c.toNat : Int) ≠ 48 := hz
      have h1 := digVal_big r (0 * 10 + (c.toNat - 48)) (fun x hx => h x (by simp [hx]))
      have h2 : 10 ^ 19 ≤ 10 ^ r.length := Nat.pow_le_pow_right (by omega) (by omega)
      rw [show (10 : Nat) ^ 19 = 10000000000000000000 from by decide] at h2
      have h3 : 1 * 10 ^ r.length ≤ (0 * 10 + (c.toNat - 48)) * 10 ^ r.length := Nat.mul_le_mul_right _ (by omega)
      show ¬ digVal r (0 * 10 + (c.toNat - 48)) ≤ _
      omega
end Lx
open Go Go.RowKit Lx

set_option maxHeartbeats 4000000 in
set_option maxRecDepth 100000 in
theorem rnumber_any (s : ByteArray) (a : Nat) (w : World) (h0 : a < s.size) (hs : s.size ≤ 140737488355328) (hn : digitB (s[a].toNat : Int) = true) (R : Value) (hR : RCut a (cutNumber (s.data.toList.drop a)) = R) :
    Calls Tryz.prog 48 #[.string s, .int .i64 a] w fun e w' => e = .returned R ∧ Below w.heap.size w w' := by
  obtain ⟨n, hnn⟩ : ∃ n, n = runLen digitB (s.data.toList.drop a) := ⟨_, rfl⟩
  have hn1 : digLen (s.data.toList.drop a) = n := by
    rw [hnn, digLen, drop_cons s a h0, runLen_yes _ _ _ hn]; rfl
  have hle : a + n ≤ s.size := by
    have := runLen_le digitB (s.data.toList.drop a)
    rw [← hnn, List.length_drop, len_data] at this
    omega
  have hnp : 1 ≤ n := by rw [← hn1, digLen]; omega
  obtain ⟨D, hD⟩ : ∃ D : Bs, D = (s.data.toList.drop a).take n := ⟨_, rfl⟩
  have hDl : D.length = n := by rw [hD, List.length_take, List.length_drop, len_data]; omega
  have hDa : ∀ c ∈ D, digitB (c.toNat : Int) = true := by rw [hD, hnn]; exact run_all digitB _
  have hDh : Lx.hd D = (s[a].toNat : Int) := by
    obtain ⟨m, rfl⟩ : ∃ m, n = m + 1 := ⟨n - 1, by omega⟩
    rw [hD, drop_cons s a h0]; rfl
  have hDn : D ≠ [] := by intro e; rw [e] at hDl; simp at hDl; omega
  have hnum := number_val hDa hDn
  have hrest : (s.data.toList.drop a).drop n = s.data.toList.drop (a + n) := by rw [List.drop_drop]
  have hR' : R = match number D with
      | none => rbad 11 (a : Int)
      | some v => if s.data.toList.drop (a + n) ≠ [] ∧ nameB (Lx.hd (s.data.toList.drop (a + n))) = true then rbad 11 (a : Int) else rcut (a : Int) 4 ⟨#[]⟩ v ((a + n : Nat) : Int) := by
    rw [← hR, cutNumber, hn1, ← hD, hrest]
    cases number D with
    | none => rfl
    | some v =>
      simp only
      split <;> rfl
  have HR : Hid (((Lx.hd D = 48 ∧ 1 < n) ∨ ¬ digVal D 0 ≤ 9223372036854775807 → rbad 11 (a : Int) = R) ∧ (¬ ((Lx.hd D = 48 ∧ 1 < n) ∨ ¬ digVal D 0 ≤ 9223372036854775807) → (s.data.toList.drop (a + n) ≠ [] ∧ nameB (Lx.hd (s.data.toList.drop (a + n))) = true → rbad 11 (a : Int) = R) ∧
      (¬ (s.data.toList.drop (a + n) ≠ [] ∧ nameB (Lx.hd (s.data.toList.drop (a + n))) = true) → rcut (a : Int) 4 ⟨#[]⟩ (digVal D 0 : Int) ((a + n : Nat) : Int) = R))) := by
    rw [hDl] at hnum
    refine ⟨fun h => ?_, fun h => ⟨fun h2 => ?_, fun h2 => ?_⟩⟩
    · rw [hR', hnum, if_pos h]
    · rw [hR', hnum, if_neg h]; simp only; rw [if_pos h2]
    · rw [hR', hnum, if_neg h]; simp only; rw [if_neg h2]
  rw [hDh] at HR
  have HK : Hid (∀ k, a ≤ k → k < a + n → ∃ h : k < s.size, digitB (s[k].toNat : Int) = true ∧ D.take (k + 1 - a) = D.take (k - a) ++ [s[k]]) := by
    intro k h1 h2
    have hk : k < s.size := by omega
    have he : D[k - a]? = some s[k] := by
      rw [hD, List.getElem?_take_of_lt (by omega), List.getElem?_drop, show a + (k - a) = k from by omega, ← List.head?_drop, drop_cons s k hk]; rfl
    refine ⟨hk, hDa _ (List.mem_of_getElem? he), ?_⟩
    rw [show k + 1 - a = (k - a) + 1 from by omega, List.take_add_one, he]; rfl
  have HE : Hid (a + n = s.size ∨ ∃ h : a + n < s.size, digitB (s[a + n].toNat : Int) = false) := by
    have := run_rest digitB (s.data.toList.drop a)
    rw [← hnn, hrest] at this
    rcases Nat.lt_or_ge (a + n) s.size with h | h
    · right
      refine ⟨h, ?_⟩
      rw [drop_cons s (a + n) h] at this
      exact this.resolve_left (by simp)
    · left; omega
  have HV : Hid (∀ k, a ≤ k → k ≤ a + n → k ≤ a + 19 → digVal (D.take (k - a)) 0 < 10 ^ (k - a)) := by
    intro k h1 h2 h3
    have := digVal_lt (D.take (k - a)) 0 (fun c hc => hDa c (List.mem_of_mem_take hc))
    rw [List.length_take, show min (k - a) D.length = k - a from by omega] at this
    omega
  have hT : D.take n = D := List.take_of_length_le (by omega)
  have HT := hide hT
  have h20 : Hid (20 ≤ n → ((s[a].toNat : Int) = 48 ∧ 1 < n) ∨ ¬ digVal D 0 ≤ 9223372036854775807) := by
    intro h
    have := digVal_20 hDa (by omega)
    rw [hDh, hDl] at this
    exact this
  clear hR hR' hnum hn1 hnn hD hDa hDh hDn hrest hT hn
  go_enter Tryz.func48, Tryz.ntmps48
  go_wp2
  go_loop [5, 6] (fun i u => ∃ (k v : Nat), a ≤ k ∧ k ≤ a + n ∧ k ≤ a + 19 ∧ i = .int .i64 k ∧ u = .int .u64 (v : Int) ∧ Hid (v = digVal (D.take (k - a)) 0)) (fun i _ => s.size - (intOf i).toNat)
  case atStart => exact ⟨a, 0, by omega, by omega, by omega, rfl, rfl, by show _ = _; rw [Nat.sub_self]; rfl⟩
  case round =>
    obtain ⟨k, v, hk0, hk1, hk2, rfl, rfl, HU⟩ := hrel
    by_cases hlt : k < a + n
    · obtain ⟨hks, hb, htk⟩ := unhide HK k hk0 hlt
      have hlt' : (k : Int) < (s.size : Int) := by omega
      by_cases h19 : k = a + 19
      · have q : 18 < (k : Int) - (a : Int) := by omega
        have HW : Hid (rbad 11 (a : Int) = R) := (unhide HR).1 (unhide h20 (by omega))
        clear HR HU HK HV HE h19 htk
        go_wp2_with (first | (go_at_call 45; refine (rdigit_any _ _).mono ?_; rintro e w' ⟨rfl, rfl⟩; rw [hb]) | (go_at_call 50; refine (wrong_any _ _ _).mono ?_; rintro e w1 ⟨rfl, hb1⟩; obtain ⟨hc, hf⟩ := bcell hb1; dsimp only [rbad]))
        exact bodyPost_ret (v := rbad 11 (a : Int)) (by simp [results, Tryz.results48, go_sem, hc, rbad]) rfl ⟨ret_val (unhide HW), below7 ((Below.refl _ _).alloc (Nat.le_refl _) _ |>.trans (hb1.mono (by simp))) (Nat.le_refl _) _ _ _ _ _ _ _⟩
      · have q : (k : Int) - (a : Int) ≤ 18 := by omega
        have hv : v < 1000000000000000000 := by
          have h1 := unhide HV k hk0 hk1 hk2
          rw [← unhide HU] at h1
          have h2 : 10 ^ (k - a) ≤ 10 ^ 18 := Nat.pow_le_pow_right (by omega) (by omega)
          rw [show (10 : Nat) ^ 18 = 1000000000000000000 from by decide] at h2
          omega
        have hd48 : 48 ≤ (s[k].toNat : Int) ∧ (s[k].toNat : Int) ≤ 57 := by simpa [digitB] using hb
        obtain ⟨d48, d57⟩ := hd48
        have HN : Hid (v * 10 + (s[k].toNat - 48) = digVal (D.take (k + 1 - a)) 0) := by
          show _ = _
          rw [htk, digVal_app, ← unhide HU]; rfl
        clear HU HK HV HE h19 htk HR
        go_wp2_with (first | (go_at_call 45; refine (rdigit_any _ _).mono ?_; rintro e w' ⟨rfl, rfl⟩; rw [hb]))
        go_round
        case rel => exact ⟨k + 1, v * 10 + (s[k].toNat - 48), by omega, by omega, by omega, by go_num, by go_num, HN⟩
        case measure => simp [intOf]; omega
    · have hk : k = a + n := by omega
      have hv : v = digVal D 0 := by
        rw [unhide HU, hk, Nat.add_sub_cancel_left, unhide HT]
      have hv19 : v < 10000000000000000000 := by
        have h1 := unhide HV _ hk0 hk1 hk2
        rw [← unhide HU, hk, Nat.add_sub_cancel_left] at h1
        have h2 : 10 ^ n ≤ 10 ^ 19 := Nat.pow_le_pow_right (by omega) (by omega)
        rw [show (10 : Nat) ^ 19 = 10000000000000000000 from by decide] at h2
        omega
      rw [← hv, ← hk] at HR
      have HE2 := unhide HE
      rw [← hk] at HE2
      clear HU HK HV HE HT h20 hv
      have hnz : ((s[a].toNat : Int) = 48 ∧ 1 < n) ∨ (((s[a].toNat : Int) == 48) = true ∧ ¬ 1 < n) ∨ ((s[a].toNat : Int) == 48) = false := by
        by_cases h : (s[a].toNat : Int) = 48
        · by_cases h2 : 1 < n
          · exact .inl ⟨h, h2⟩
          · exact .inr (.inl ⟨by simp [h], h2⟩)
        · exact .inr (.inr (by simpa using h))
      have hnot : ((((s[a].toNat : Int) == 48) = true ∧ ¬ 1 < n) ∨ ((s[a].toNat : Int) == 48) = false) → ¬ ((s[a].toNat : Int) = 48 ∧ 1 < n) := by
        rintro (⟨_, h⟩ | h) ⟨h1, h2⟩
        · exact h h2
        · rw [h1] at h; simp at h
      rcases HE2 with hend | ⟨hks, hb⟩
      · have hend' : (k : Int) = (s.size : Int) := by omega
        rcases hnz with ⟨z1, z2⟩ | hzz
        · have HW : Hid (rbad 11 (a : Int) = R) := (unhide HR).1 (.inl ⟨z1, z2⟩)
          have z1' : ((s[a].toNat : Int) == 48) = true := by simp [z1]
          have z2' : (a : Int) + 1 < (k : Int) := by omega
          clear HR hnot z1 z2 hk
          go_wp2_with (first | (go_at_call 45; fail) | (go_at_call 50; refine (wrong_any _ _ _).mono ?_; rintro e w1 ⟨rfl, hb1⟩; obtain ⟨hc, hf⟩ := bcell hb1; dsimp only [rbad]))
          exact bodyPost_ret (v := rbad 11 (a : Int)) (by simp [results, Tryz.results48, go_sem, hc, rbad]) rfl ⟨ret_val (unhide HW), below7 ((Below.refl _ _).alloc (Nat.le_refl _) _ |>.trans (hb1.mono (by simp))) (Nat.le_refl _) _ _ _ _ _ _ _⟩
        · have hno := hnot hzz
          have hzz' : (((s[a].toNat : Int) == 48) = true ∧ (k : Int) ≤ (a : Int) + 1) ∨ ((s[a].toNat : Int) == 48) = false := or_map hzz (fun h => ⟨h.1, by omega⟩) id
          clear hnot hzz
          by_cases hbig : v ≤ 9223372036854775807
          · have hbig' : ¬ 9223372036854775808 ≤ (v : Int) := by omega
            have HW : Hid (rcut (a : Int) 4 ⟨#[]⟩ (v : Int) (k : Int) = R) := ((unhide HR).2 (by rintro (h | h); exact hno h; exact h hbig)).2 (by rintro ⟨h, _⟩; exact h (List.drop_of_length_le (by rw [len_data]; omega)))
            clear HR hno hbig hk
            rcases hzz' with ⟨z1, z2⟩ | z1
            all_goals
              go_wp2_with (first | (go_at_call 45; fail))
              exact bodyPost_ret (v := rcut (a : Int) 4 ⟨#[]⟩ (v : Int) (k : Int)) (by simp [results, Tryz.results48, go_sem, rcut]; omega) rfl ⟨ret_val (unhide HW), below2 _ _ _⟩
          · have hbig' : 9223372036854775808 ≤ (v : Int) := by omega
            have HW : Hid (rbad 11 (a : Int) = R) := (unhide HR).1 (.inr hbig)
            clear HR hno hbig hk
            rcases hzz' with ⟨z1, z2⟩ | z1
            all_goals
              go_wp2_with (first | (go_at_call 45; fail) | (go_at_call 50; refine (wrong_any _ _ _).mono ?_; rintro e w1 ⟨rfl, hb1⟩; obtain ⟨hc, hf⟩ := bcell hb1; dsimp only [rbad]))
              exact bodyPost_ret (v := rbad 11 (a : Int)) (by simp [results, Tryz.results48, go_sem, hc, rbad]) rfl ⟨ret_val (unhide HW), below7 ((Below.refl _ _).alloc (Nat.le_refl _) _ |>.trans (hb1.mono (by simp))) (Nat.le_refl _) _ _ _ _ _ _ _⟩
      · have hks' : (k : Int) < (s.size : Int) := by omega
        rcases hnz with ⟨z1, z2⟩ | hzz
        · have HW : Hid (rbad 11 (a : Int) = R) := (unhide HR).1 (.inl ⟨z1, z2⟩)
          have z1' : ((s[a].toNat : Int) == 48) = true := by simp [z1]
          have z2' : (a : Int) + 1 < (k : Int) := by omega
          clear HR hnot z1 z2 hk
          go_wp2_with (first | (go_at_call 45; refine (rdigit_any _ _).mono ?_; rintro e w' ⟨rfl, rfl⟩; rw [hb]) | (go_at_call 50; refine (wrong_any _ _ _).mono ?_; rintro e w1 ⟨rfl, hb1⟩; obtain ⟨hc, hf⟩ := bcell hb1; dsimp only [rbad]))
          exact bodyPost_ret (v := rbad 11 (a : Int)) (by simp [results, Tryz.results48, go_sem, hc, rbad]) rfl ⟨ret_val (unhide HW), below7 ((Below.refl _ _).alloc (Nat.le_refl _) _ |>.trans (hb1.mono (by simp))) (Nat.le_refl _) _ _ _ _ _ _ _⟩
        · have hno := hnot hzz
          have hzz' : (((s[a].toNat : Int) == 48) = true ∧ (k : Int) ≤ (a : Int) + 1) ∨ ((s[a].toNat : Int) == 48) = false := or_map hzz (fun h => ⟨h.1, by omega⟩) id
          clear hnot hzz
          by_cases hbig : v ≤ 9223372036854775807
          · have hbig' : ¬ 9223372036854775808 ≤ (v : Int) := by omega
            have hnm : nameB (Lx.hd (s.data.toList.drop k)) = (smallB (s[k].toNat : Int) || greatB (s[k].toNat : Int) || ((s[k].toNat : Int) == 95)) := by
              rw [hd_at s k hks, nameB, hb]; simp
            have hne : s.data.toList.drop k ≠ [] := by rw [drop_cons s k hks]; simp
            have HR2 := (unhide HR).2 (by rintro (h | h); exact hno h; exact h hbig)
            rw [hnm] at HR2
            clear HR hno hnm hbig hk
            by_cases f1 : smallB (s[k].toNat : Int) = true
            · have HW : Hid (rbad 11 (a : Int) = R) := HR2.1 ⟨hne, by rw [f1]; rfl⟩
              clear HR2 hne
              rcases hzz' with ⟨z1, z2⟩ | z1
              all_goals
                go_wp2_with (first | (go_at_call 45; refine (rdigit_any _ _).mono ?_; rintro e w' ⟨rfl, rfl⟩; rw [hb]) | (go_at_call 43; refine (rsmall_any _ _).mono ?_; rintro e w' ⟨rfl, rfl⟩; rw [f1]) | (go_at_call 50; refine (wrong_any _ _ _).mono ?_; rintro e w1 ⟨rfl, hb1⟩; obtain ⟨hc, hf⟩ := bcell hb1; dsimp only [rbad]))
                exact bodyPost_ret (v := rbad 11 (a : Int)) (by simp [results, Tryz.results48, go_sem, hc, rbad]) rfl ⟨ret_val (unhide HW), below7 ((Below.refl _ _).alloc (Nat.le_refl _) _ |>.trans (hb1.mono (by simp))) (Nat.le_refl _) _ _ _ _ _ _ _⟩
            · have f1 := (Bool.not_eq_true _).mp f1
              by_cases f2 : greatB (s[k].toNat : Int) = true
              · have HW : Hid (rbad 11 (a : Int) = R) := HR2.1 ⟨hne, by rw [f1, f2]; rfl⟩
                clear HR2 hne
                rcases hzz' with ⟨z1, z2⟩ | z1
                all_goals
                  go_wp2_with (first | (go_at_call 45; refine (rdigit_any _ _).mono ?_; rintro e w' ⟨rfl, rfl⟩; rw [hb]) | (go_at_call 43; refine (rsmall_any _ _).mono ?_; rintro e w' ⟨rfl, rfl⟩; rw [f1]) | (go_at_call 44; refine (rgreat_any _ _).mono ?_; rintro e w' ⟨rfl, rfl⟩; rw [f2]) | (go_at_call 50; refine (wrong_any _ _ _).mono ?_; rintro e w1 ⟨rfl, hb1⟩; obtain ⟨hc, hf⟩ := bcell hb1; dsimp only [rbad]))
                  exact bodyPost_ret (v := rbad 11 (a : Int)) (by simp [results, Tryz.results48, go_sem, hc, rbad]) rfl ⟨ret_val (unhide HW), below7 ((Below.refl _ _).alloc (Nat.le_refl _) _ |>.trans (hb1.mono (by simp))) (Nat.le_refl _) _ _ _ _ _ _ _⟩
              · have f2 := (Bool.not_eq_true _).mp f2
                by_cases f3 : ((s[k].toNat : Int) == 95) = true
                · have HW : Hid (rbad 11 (a : Int) = R) := HR2.1 ⟨hne, by rw [f1, f2, f3]; rfl⟩
                  clear HR2 hne
                  rcases hzz' with ⟨z1, z2⟩ | z1
                  all_goals
                    go_wp2_with (first | (go_at_call 45; refine (rdigit_any _ _).mono ?_; rintro e w' ⟨rfl, rfl⟩; rw [hb]) | (go_at_call 43; refine (rsmall_any _ _).mono ?_; rintro e w' ⟨rfl, rfl⟩; rw [f1]) | (go_at_call 44; refine (rgreat_any _ _).mono ?_; rintro e w' ⟨rfl, rfl⟩; rw [f2]) | (go_at_call 50; refine (wrong_any _ _ _).mono ?_; rintro e w1 ⟨rfl, hb1⟩; obtain ⟨hc, hf⟩ := bcell hb1; dsimp only [rbad]))
                    exact bodyPost_ret (v := rbad 11 (a : Int)) (by simp [results, Tryz.results48, go_sem, hc, rbad]) rfl ⟨ret_val (unhide HW), below7 ((Below.refl _ _).alloc (Nat.le_refl _) _ |>.trans (hb1.mono (by simp))) (Nat.le_refl _) _ _ _ _ _ _ _⟩
                · have f3 := (Bool.not_eq_true _).mp f3
                  have HW : Hid (rcut (a : Int) 4 ⟨#[]⟩ (v : Int) (k : Int) = R) := HR2.2 (by rintro ⟨_, h⟩; rw [f1, f2, f3] at h; cases h)
                  have e4 : IntKind.i64.wrap (v : Int) = (v : Int) := by rw [IntKind.wrap_i64]; omega
                  have q9 : decide ((9223372036854775808 : Int) ≤ (v : Int)) = false := decide_eq_false hbig'
                  clear HR2 hne hbig' hv19
                  rcases hzz' with ⟨z1, z2⟩ | z1
                  all_goals
                    go_wp2_with (first | (go_at_call 45; refine (rdigit_any _ _).mono ?_; rintro e w' ⟨rfl, rfl⟩; rw [hb]) | (go_at_call 43; refine (rsmall_any _ _).mono ?_; rintro e w' ⟨rfl, rfl⟩; rw [f1]) | (go_at_call 44; refine (rgreat_any _ _).mono ?_; rintro e w' ⟨rfl, rfl⟩; rw [f2]))
                    exact bodyPost_ret (v := rcut (a : Int) 4 ⟨#[]⟩ (v : Int) (k : Int)) (by simp [results, Tryz.results48, go_sem, rcut]) rfl ⟨ret_val (unhide HW), below2 _ _ _⟩
          · have hbig' : 9223372036854775808 ≤ (v : Int) := by omega
            have HW : Hid (rbad 11 (a : Int) = R) := (unhide HR).1 (.inr hbig)
            clear HR hno hbig hk
            rcases hzz' with ⟨z1, z2⟩ | z1
            all_goals
              go_wp2_with (first | (go_at_call 45; refine (rdigit_any _ _).mono ?_; rintro e w' ⟨rfl, rfl⟩; rw [hb]) | (go_at_call 50; refine (wrong_any _ _ _).mono ?_; rintro e w1 ⟨rfl, hb1⟩; obtain ⟨hc, hf⟩ := bcell hb1; dsimp only [rbad]))
              exact bodyPost_ret (v := rbad 11 (a : Int)) (by simp [results, Tryz.results48, go_sem, hc, rbad]) rfl ⟨ret_val (unhide HW), below7 ((Below.refl _ _).alloc (Nat.le_refl _) _ |>.trans (hb1.mono (by simp))) (Nat.le_refl _) _ _ _ _ _ _ _⟩
end Go.Proofs.YthplgkkailieoaaGreatDoor
