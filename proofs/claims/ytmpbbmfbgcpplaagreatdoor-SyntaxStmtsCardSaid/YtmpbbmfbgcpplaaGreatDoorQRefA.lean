import Derived.Test.YtmpbbmfbgcpplaaGreatDoorQJoinF
import Derived.Test.YtmpbbmfbgcpplaaGreatDoorQLaws9
set_option maxHeartbeats 4000000
set_option maxRecDepth 100000
namespace Go.Proofs.YtmpbbmfbgcpplaaGreatDoor
open Go Go.RowKit Lx
theorem zbp (b : Int) (w : World) : Calls Tryz.prog 166 #[.int .u8 b] w fun e w' => e = .returned (.bool (ze3 b)) ∧ w = w' := by
 go_enter Tryz.func166, Tryz.ntmps166
 go_wp2
 all_goals
  go_ret
  simp_all [ze3]
  try omega
theorem zb2 (b : Int) (w : World) : Calls Tryz.prog 167 #[.int .u8 b] w fun e w' => e = .returned (.bool (zd1 b)) ∧ w = w' := by
 go_enter Tryz.func167, Tryz.ntmps167
 go_wp2
 all_goals
  go_ret
  simp_all [zd1]
  try omega
theorem zbg (b : Int) (w : World) : Calls Tryz.prog 168 #[.int .u8 b] w fun e w' => e = .returned (.bool (zab b)) ∧ w = w' := by
 go_enter Tryz.func168, Tryz.ntmps168
 go_wp2
 all_goals
  go_ret
  simp_all [zab]
  try omega
theorem zf4 (b : Int) (w : World) : Calls Tryz.prog 182 #[.int .u8 b] w fun e w' => e = .returned (.bool (zax b)) ∧ w = w' := by
 go_enter Tryz.func182, Tryz.ntmps182
 go_wp2_with (first | (go_at_call 166; refine (zbp _ _).mono ?_; rintro e w' ⟨rfl, rfl⟩) | (go_at_call 167; refine (zb2 _ _).mono ?_; rintro e w' ⟨rfl, rfl⟩) | (go_at_call 168; refine (zbg _ _).mono ?_; rintro e w' ⟨rfl, rfl⟩))
 all_goals
  go_ret
  simp_all [zax]
def zg6 (b : Int) : Bool := zcn b && b != 34 && b != 92
theorem zdu (b : Int) (w : World) : Calls Tryz.prog 184 #[.int .u8 b] w fun e w' => e = .returned (.bool (zg6 b)) ∧ w = w' := by
 go_enter Tryz.func184, Tryz.ntmps184
 go_wp2
 all_goals
  go_ret
  simp_all [zg6, zcn]
  try omega
theorem zi4 (b : Int) (w : World) : Calls Tryz.prog 79 #[.int .u8 b] w fun e w' => e = .returned (.bool (b == 10 || zcn b)) ∧ w = w' := by
 go_enter Tryz.func79, Tryz.ntmps79
 go_wp2
 all_goals
  go_ret
  simp_all [zcn]
  try omega
def ze5 (a k : Int) (s : ByteArray) (v z : Int) : Value := .agg #[.int .i64 a, .int .i64 k, .string s, .int .i64 v, .int .i64 z, .int .i64 0, .int .i64 0]
def zcf (y p : Int) : Value := .agg #[.int .i64 0, .int .i64 0, .string ⟨#[]⟩, .int .i64 0, .int .i64 0, .int .i64 y, .int .i64 p]
theorem zc3 (y p : Int) (w : World) : Calls Tryz.prog 172 #[.int .i64 y, .int .i64 p] w fun e w' => e = .returned (zcf y p) ∧ Below w.heap.size w w' := by
 go_enter Tryz.func172, Tryz.ntmps172
 go_wp2
 exact bodyPost_ret (v := zcf y p) (by simp [results, Tryz.results172, go_sem, zcf]) rfl ⟨rfl, (Below.refl _ _).alloc (Nat.le_refl _) _⟩
theorem rwords_any (w : World) : Calls Tryz.prog 197 #[] w fun e w' => e = .returned (.slice (some ⟨w.heap.size, 0, none⟩) 25 25) ∧ w' = w.alloc (.cells ze2 9) := refWords_any w
theorem zia (s : ByteArray) (b : Bool) (hb : words.contains s.data.toList = b) (w : World) : Calls Tryz.prog 183 #[.string s] w fun e w' => e = .returned (.bool b) ∧ Below w.heap.size w w' := by
 have HBB := za3 hb
 clear hb
 go_enter Tryz.func183, Tryz.ntmps183
 go_wp2_with (go_at_call 197; refine (rwords_any _).mono ?_; rintro e wv ⟨rfl, rfl⟩)
 have HW := za3 (zks w)
 have HB1 : Below w.heap.size w (w.alloc (.cells ze2 9)) := (Below.refl _ _).alloc (Nat.le_refl _) _
 revert HW HB1
 generalize w.alloc (.cells ze2 9) = W1
 intro HW HB1
 go_loop [4] (fun i => ∃ k : Nat, k ≤ 25 ∧ i = .int .i64 k ∧ Hid (words.contains s.data.toList = (words.drop k).contains s.data.toList)) (fun i => 25 - (intOf i).toNat)
 case atStart => exact ⟨0, by omega, rfl, rfl⟩
 case round =>
  obtain ⟨k, hk, rfl, HK⟩ := hrel
  by_cases hlt : k < 25
  ·have c0 := za0 HW k (by simpa [wordStrs, words] using hlt)
   rw [Nat.zero_add] at c0
   have hlt' : (k : Int) < 25 := by omega
   have hwl : k < words.length := by simpa [words] using hlt
   have hdr : words.drop k = words.getD k [] :: words.drop (k + 1) := by
    rw [List.drop_eq_getElem_cons hwl, List.getD_eq_getElem?_getD, List.getElem?_eq_getElem hwl]; rfl
   have hws : (wordStrs.getD k ByteArray.empty).data.toList = words.getD k [] := by
    simp [wordStrs, List.getD_eq_getElem?_getD, List.getElem?_eq_getElem hwl]
   have e := za0 HK
   rw [hdr, ← hws] at e
   clear hdr hws HK
   revert c0 e
   generalize wordStrs.getD k ByteArray.empty = ws
   intro c0 e
   by_cases hw : ws = s
   ·subst hw
    have HT : Hid (true = b) := by show _ = _; rw [← za0 HBB, e]; simp
    clear e
    go_wp2
    go_ret
    exact ⟨zd6 (za0 HT), HB1⟩
   ·have q : (ws.toList == s.toList) = false := by
     rw [beq_eq_false_iff_ne, toList_data, toList_data]
     intro h; apply hw; apply ByteArray.ext; apply Array.ext'; exact h
    have HN : Hid (words.contains s.data.toList = (words.drop (k + 1)).contains s.data.toList) := by
     show _ = _
     rw [e, List.contains_cons, show (s.data.toList == ws.data.toList) = false from by
      rw [beq_eq_false_iff_ne]; intro h; apply hw; apply ByteArray.ext; apply Array.ext'; exact h.symm]
     rfl
    clear e
    go_wp2
    go_round
    case rel => exact ⟨k + 1, by omega, by go_num, HN⟩
    case measure => simp [intOf]; omega
  ·have HT : Hid (false = b) := by
    have e := za0 HK
    rw [List.drop_of_length_le (by simp [words]; omega), za0 HBB] at e
    exact e.symm
   go_wp2
   go_ret
   exact ⟨zd6 (za0 HT), HB1⟩
def signRows : List Bs := [[61, 61], [40], [41], [123], [125], [59], [58], [44], [46], [61], [60], [43], [45], [42]]
def zbv : Array Value := (signRows.map fun s => Value.string ⟨s.toArray⟩).toArray
theorem zip (w : World) : Calls Tryz.prog 134 #[] w fun e w' => e = .returned (.slice (some ⟨w.heap.size, 0, none⟩) 14 14) ∧ w' = w.alloc (.cells zbv 9) := by
 go_enter Tryz.func134, Tryz.ntmps134
 go_wp2
 go_ret
 exact ⟨rfl, rfl⟩
theorem zky (w : World) : ∀ j, j < 14 → (w.alloc (.cells zbv 9)).cell? ⟨w.heap.size, j, none⟩ = some (.string ⟨(signRows.getD j []).toArray⟩) := by
 intro j hj
 rw [World.cell?_alloc_at _ _ _ _ (by rfl)]
 have hl : j < signRows.length := hj
 simp [zbv, List.getD_eq_getElem?_getD, List.getElem?_eq_getElem hl]
theorem sign_row : ∀ j, j < 14 → (signRows.getD j []) ≠ [] ∧ (signRows.getD j []).length ≤ 2 := by decide
theorem signs_first : ∀ b : Nat, b < 256 → zeu (b : Int) = (signRows.any fun r => hd r == (b : Int)) := by decide +kernel
theorem zkd (b : UInt8) (t : Bool) (ht : zbh (b.toNat : Int) = t) (w : World) : Calls Tryz.prog 158 #[.int .u8 (b.toNat : Int)] w fun e w' => e = .returned (.bool t) ∧ Below w.heap.size w w' := by
 obtain ⟨x, hx⟩ : ∃ x : Int, (b.toNat : Int) = x := ⟨_, rfl⟩
 have hs := signs_first b.toNat (UInt8.toNat_lt b)
 rw [hx] at ht hs
 rw [hx]
 clear hx
 by_cases h1 : ze3 x = true
 ·have HT : Hid (true = t) := by show _ = _; rw [← ht, zbh, h1]; rfl
  clear ht hs
  go_enter Tryz.func158, Tryz.ntmps158
  go_wp2_with (go_at_call 166; refine (zbp _ _).mono ?_; rintro e w' ⟨rfl, rfl⟩; rw [h1])
  go_ret
  exact ⟨zd6 (za0 HT), Below.refl _ _⟩
 ·have h1 := (Bool.not_eq_true _).mp h1
  by_cases h2 : zd1 x = true
  ·have HT : Hid (true = t) := by show _ = _; rw [← ht, zbh, h1, h2]; rfl
   clear ht hs
   go_enter Tryz.func158, Tryz.ntmps158
   go_wp2_with (first | (go_at_call 166; refine (zbp _ _).mono ?_; rintro e w' ⟨rfl, rfl⟩; rw [h1]) | (go_at_call 167; refine (zb2 _ _).mono ?_; rintro e w' ⟨rfl, rfl⟩; rw [h2]))
   go_ret
   exact ⟨zd6 (za0 HT), Below.refl _ _⟩
  ·have h2 := (Bool.not_eq_true _).mp h2
   by_cases h3 : zab x = true
   ·have HT : Hid (true = t) := by show _ = _; rw [← ht, zbh, h1, h2, h3]; rfl
    clear ht hs
    go_enter Tryz.func158, Tryz.ntmps158
    go_wp2_with (first | (go_at_call 166; refine (zbp _ _).mono ?_; rintro e w' ⟨rfl, rfl⟩; rw [h1]) | (go_at_call 167; refine (zb2 _ _).mono ?_; rintro e w' ⟨rfl, rfl⟩; rw [h2]) | (go_at_call 168; refine (zbg _ _).mono ?_; rintro e w' ⟨rfl, rfl⟩; rw [h3]))
    go_ret
    exact ⟨zd6 (za0 HT), Below.refl _ _⟩
   ·have h3 := (Bool.not_eq_true _).mp h3
    by_cases h4 : x = 34
    ·have HT : Hid (true = t) := by show _ = _; rw [← ht, zbh, h1, h2, h3, h4]; rfl
     have q : (x == 34) = true := by simp [h4]
     clear ht hs h4
     go_enter Tryz.func158, Tryz.ntmps158
     go_wp2_with (first | (go_at_call 166; refine (zbp _ _).mono ?_; rintro e w' ⟨rfl, rfl⟩; rw [h1]) | (go_at_call 167; refine (zb2 _ _).mono ?_; rintro e w' ⟨rfl, rfl⟩; rw [h2]) | (go_at_call 168; refine (zbg _ _).mono ?_; rintro e w' ⟨rfl, rfl⟩; rw [h3]))
     go_ret
     exact ⟨zd6 (za0 HT), Below.refl _ _⟩
    ·have q : (x == 34) = false := by simpa using h4
     have HT : Hid (t = signRows.any fun r => hd r == x) := by show _ = _; rw [← ht, zbh, h1, h2, h3, q, hs]; rfl
     clear ht hs h4
     go_enter Tryz.func158, Tryz.ntmps158
     go_wp2_with (first | (go_at_call 166; refine (zbp _ _).mono ?_; rintro e w' ⟨rfl, rfl⟩; rw [h1]) | (go_at_call 167; refine (zb2 _ _).mono ?_; rintro e w' ⟨rfl, rfl⟩; rw [h2]) | (go_at_call 168; refine (zbg _ _).mono ?_; rintro e w' ⟨rfl, rfl⟩; rw [h3]) | (go_at_call 134; refine (zip _).mono ?_; rintro e wv ⟨rfl, rfl⟩))
     have HW := za3 (zky w)
     have HB1 : Below w.heap.size w (w.alloc (.cells zbv 9)) := (Below.refl _ _).alloc (Nat.le_refl _) _
     revert HW HB1
     generalize w.alloc (.cells zbv 9) = W1
     intro HW HB1
     go_loop [4] (fun i => ∃ k : Nat, k ≤ 14 ∧ i = .int .i64 k ∧ Hid (t = (signRows.drop k).any fun r => hd r == x)) (fun i => 14 - (intOf i).toNat)
     case atStart => exact ⟨0, by omega, rfl, HT⟩
     case round =>
      obtain ⟨k, hk, rfl, HK⟩ := hrel
      by_cases hlt : k < 14
      ·have c0 := za0 HW k hlt
       obtain ⟨hne, _⟩ := sign_row k hlt
       have hlt' : (k : Int) < 14 := by omega
       have hdr : signRows.drop k = signRows.getD k [] :: signRows.drop (k + 1) := by
        have hwl : k < signRows.length := hlt
        rw [List.drop_eq_getElem_cons hwl, List.getD_eq_getElem?_getD, List.getElem?_eq_getElem hwl]; rfl
       have e := za0 HK
       rw [hdr, List.any_cons] at e
       clear hdr HK
       revert c0 e hne
       generalize signRows.getD k [] = row
       intro c0 hne e
       obtain ⟨f, r, rfl⟩ := List.exists_cons_of_ne_nil hne
       obtain ⟨F, hF⟩ : ∃ F : ByteArray, (⟨(f :: r).toArray⟩ : ByteArray) = F := ⟨_, rfl⟩
       have hF0 : 0 < F.size := by rw [← hF]; show 0 < (f :: r).toArray.size; simp
       have hFb : (F[0]'hF0) = f := by subst hF; rfl
       have hh : hd (f :: r) = ((F[0]'hF0).toNat : Int) := by rw [hFb]; rfl
       rw [hF] at c0
       rw [hh] at e
       clear hF hFb hh hne
       by_cases hw : ((F[0]'hF0).toNat : Int) = x
       ·have HT2 : Hid (true = t) := by show _ = _; rw [e]; simp [hw]
        have q2 : (((F[0]'hF0).toNat : Int) == x) = true := by simpa using hw
        clear e HT hw
        go_wp2
        go_ret
        exact ⟨zd6 (za0 HT2), HB1⟩
       ·have q2 : (((F[0]'hF0).toNat : Int) == x) = false := by simpa using hw
        have HN : Hid (t = (signRows.drop (k + 1)).any fun r => hd r == x) := by rw [q2] at e; exact e
        clear e HT hw
        go_wp2
        go_round
        case rel => exact ⟨k + 1, by omega, by go_num, HN⟩
        case measure => simp [intOf]; omega
      ·have HT2 : Hid (false = t) := by
        have e := za0 HK
        rw [List.drop_of_length_le (by show signRows.length ≤ k; simp [signRows]; omega)] at e
        exact e.symm
       go_wp2
       go_ret
       exact ⟨zd6 (za0 HT2), HB1⟩
theorem skipN_true_no (c : UInt8) (r : Bs) (h : c ≠ 10) : zdr true (c :: r) = 1 + zdr true r := by rw [zdr, if_neg h]
theorem skipN_true_nl (r : Bs) : zdr true (10 :: r) = skip (10 :: r) := by simp [zdr, skip, zgc]
theorem ret_nat {a b : Nat} (h : a = b) : Ending.returned (.int .i64 (a : Int)) = .returned (.int .i64 (b : Int)) := by rw [h]
theorem skip_slash (l : Bs) (h : [47, 47].isPrefixOf l = true) : skip l = zdr true l := by rw [skip_two l h, zgb]
theorem rskip_any (s : ByteArray) (a z : Nat) (w : World) (h0 : a ≤ s.size) (hs : s.size ≤ 140737488355328) (hz : z = a + skip (s.data.toList.drop a)) :
  Calls Tryz.prog 157 #[.string s, .int .i64 a] w fun e w' => e = .returned (.int .i64 (z : Int)) ∧ w = w' := by
 have HZ := za3 hz
 clear hz
 go_enter Tryz.func157, Tryz.ntmps157
 go_wp2
 go_loop [1] (fun i => ∃ k : Nat, k ≤ s.size ∧ i = .int .i64 k ∧ Hid (z = k + skip (s.data.toList.drop k))) (fun i => s.size - (intOf i).toNat)
 case atStart => exact ⟨a, h0, rfl, HZ⟩
 case round =>
  obtain ⟨k, hk, rfl, HK⟩ := hrel
  by_cases hlt : k < s.size
  ·have hd := drop_cons s k hlt
   have hlt' : (k : Int) < (s.size : Int) := by omega
   by_cases hb : zgc (s[k].toNat : Int) = true
   ·have HN : Hid (z = (k + 1) + skip (s.data.toList.drop (k + 1))) := by
     have e := za0 HK
     rw [hd, skip_blank _ _ hb] at e
     show _ = _
     omega
    have hb' : ((s[k].toNat : Int) == 9) = true ∨ (((s[k].toNat : Int) == 9) = false ∧ ((s[k].toNat : Int) == 10) = true) ∨ (((s[k].toNat : Int) == 9) = false ∧ ((s[k].toNat : Int) == 10) = false ∧ ((s[k].toNat : Int) == 13) = true) ∨
      (((s[k].toNat : Int) == 9) = false ∧ ((s[k].toNat : Int) == 10) = false ∧ ((s[k].toNat : Int) == 13) = false ∧ ((s[k].toNat : Int) == 32) = true) := by
     simp only [zgc, Bool.or_eq_true, beq_iff_eq, beq_eq_false_iff_ne] at hb ⊢
     omega
    clear hb hd
    rcases hb' with q1 | ⟨q1, q2⟩ | ⟨q1, q2, q3⟩ | ⟨q1, q2, q3, q4⟩
    all_goals
     go_wp2
     go_round
     case rel => exact ⟨k + 1, by omega, by go_num, HN⟩
     case measure => simp [intOf]; omega
   ·have hb := (Bool.not_eq_true _).mp hb
    have hb' : ((s[k].toNat : Int) == 9) = false ∧ ((s[k].toNat : Int) == 10) = false ∧ ((s[k].toNat : Int) == 13) = false ∧ ((s[k].toNat : Int) == 32) = false := by
     simp only [zgc, Bool.or_eq_false_iff] at hb
     exact ⟨hb.1.1.1, hb.1.1.2, hb.1.2, hb.2⟩
    obtain ⟨q1, q2, q3, q4⟩ := hb'
    by_cases hp : [47, 47].isPrefixOf (s.data.toList.drop k) = true
    ·have hk2 : k + 1 < s.size := by
      rcases Nat.lt_or_ge (k + 1) s.size with h | h
      ·exact h
      ·rw [hd, List.drop_of_length_le (by simp; omega)] at hp
       simp [List.isPrefixOf] at hp
     have hd2 := drop_cons s (k + 1) hk2
     have h47 : s[k] = 47 ∧ s[k + 1] = 47 := by
      rw [hd, hd2] at hp
      simp [List.isPrefixOf] at hp
      exact ⟨hp.1.symm, hp.2.symm⟩
     have n1 : ((s[k].toNat : Int) != 47) = false := by rw [h47.1]; rfl
     have n2 : ((s[k + 1].toNat : Int) != 47) = false := by rw [h47.2]; rfl
     have n3 : ((k : Int) + 1 == (s.size : Int)) = false := by rw [beq_eq_false_iff_ne]; omega
     have HR : Hid (z = k + zdr true (s.data.toList.drop k)) := by
      have e := za0 HK
      rw [skip_slash _ hp] at e
      exact e
     have hk10 : s[k] ≠ 10 := by rw [h47.1]; decide
     clear hp hd hd2 h47 HK hb
     go_wp2
     go_loop [1] (fun i => ∃ j : Nat, k ≤ j ∧ j ≤ s.size ∧ i = .int .i64 j ∧ Hid (z = j + zdr true (s.data.toList.drop j))) (fun i => s.size - (intOf i).toNat)
     case atStart => exact ⟨k, by omega, by omega, rfl, HR⟩
     case round =>
      obtain ⟨j, hj1, hj2, rfl, HJ⟩ := hrel
      by_cases hj : j < s.size
      ·have hdj := drop_cons s j hj
       have hj' : (j : Int) < (s.size : Int) := by omega
       by_cases h10 : s[j] = 10
       ·have m1 : ((s[j].toNat : Int) != 10) = false := by rw [h10]; rfl
        have HN : Hid (z = j + skip (s.data.toList.drop j)) := by
         have e := za0 HJ
         rw [hdj, h10, skipN_true_nl, ← h10, ← hdj] at e
         exact e
        have hkj : k < j := by
         rcases Nat.lt_or_ge k j with h | h
         ·exact h
         ·have : j = k := by omega
          subst this
          exact absurd h10 hk10
        clear hdj h10 HJ
        go_wp2
        go_round
        case rel => exact ⟨j, by omega, rfl, HN⟩
        case measure => simp [intOf]; omega
       ·have m1 : ((s[j].toNat : Int) != 10) = true := by
         simp only [bne_iff_ne, ne_eq]
         intro h
         exact h10 (zcp (n := 10) (by decide) h)
        have HN : Hid (z = (j + 1) + zdr true (s.data.toList.drop (j + 1))) := by
         have e := za0 HJ
         rw [hdj, skipN_true_no _ _ h10] at e
         show _ = _
         omega
        clear hdj h10 HJ
        go_wp2
        go_round
        case rel => exact ⟨j + 1, by omega, by omega, by go_num, HN⟩
        case measure => simp [intOf]; omega
      ·have HN : Hid (z = j + skip (s.data.toList.drop j)) := by
        have e := za0 HJ
        rw [List.drop_of_length_le (i := j) (by rw [zc2]; omega)] at e ⊢
        exact e
       go_wp2
       go_round
       case rel => exact ⟨j, by omega, rfl, HN⟩
       case measure => simp [intOf]; omega
    ·have hp := (Bool.not_eq_true _).mp hp
     have HN : Hid (z = k) := by
      have e := za0 HK
      rw [hd] at e hp
      rw [skip_none _ _ hb hp] at e
      exact e
     have hcase : ((s[k].toNat : Int) != 47) = true ∨ (((s[k].toNat : Int) != 47) = false ∧ ((k : Int) + 1 == (s.size : Int)) = true) ∨ (∃ h : k + 1 < s.size, ((s[k].toNat : Int) != 47) = false ∧ ((k : Int) + 1 == (s.size : Int)) = false ∧ ((s[k + 1].toNat : Int) != 47) = true) := by
      by_cases c1 : s[k] = 47
      ·have n1 : ((s[k].toNat : Int) != 47) = false := by rw [c1]; rfl
       rcases Nat.lt_or_ge (k + 1) s.size with h | h
       ·refine .inr (.inr ⟨h, n1, by rw [beq_eq_false_iff_ne]; omega, ?_⟩)
        simp only [bne_iff_ne, ne_eq]
        intro hq
        have c2 : s[k + 1] = 47 := zcp (n := 47) (by decide) hq
        rw [hd, drop_cons s (k + 1) h, c1, c2] at hp
        simp [List.isPrefixOf] at hp
       ·exact .inr (.inl ⟨n1, by rw [beq_iff_eq]; omega⟩)
      ·left
       simp only [bne_iff_ne, ne_eq]
       intro hq
       exact c1 (zcp (n := 47) (by decide) hq)
     clear hd hp HK hb
     rcases hcase with n1 | ⟨n1, n2⟩ | ⟨hk2, n1, n2, n3⟩
     all_goals
      go_wp2
      go_ret
      exact ⟨ret_nat (za0 HN).symm, rfl⟩
  ·have HN : Hid (z = k) := by
    have e := za0 HK
    rw [List.drop_of_length_le (i := k) (by rw [zc2]; omega)] at e
    exact e
   go_wp2
   go_ret
   exact ⟨ret_nat (za0 HN).symm, rfl⟩
def RCut (a : Nat) : Cut → Value
 | .inl (o, y) => zcf (y : Int) ((a + o : Nat) : Int)
 | .inr (k, s, v, m) => ze5 (a : Int) k ⟨s.toArray⟩ v ((a + m : Nat) : Int)
theorem zbs {a b : Value} (h : a = b) : Ending.returned a = .returned b := by rw [h]
theorem zk2 {s : Bs} (h : zd1 (hd s) = true) : kindOf s = 2 := by rw [kindOf, if_pos h]
theorem rwords_small : ∀ x ∈ words, zd1 (hd x) = false := by decide +kernel
theorem word_kind' {s : Bs} (h : words.contains s = true) : kindOf s = 3 := by
 have := rwords_small s (by simpa using h)
 rw [kindOf, this, h]; rfl
theorem name_kind' {s : Bs} (h : zd1 (hd s) = false) (h2 : words.contains s = false) : kindOf s = 1 := by rw [kindOf, h, h2]; rfl
theorem zcm {B : Nat} {w w1 : World} (h : Below B w w1) {b : Nat} (hb : B ≤ b) (v0 v1 v2 v3 v4 v5 v6 : Value) :
  Below B w (((((((w1.setCell ⟨b, 0, none⟩ v0).setCell ⟨b, 1, none⟩ v1).setCell ⟨b, 2, none⟩ v2).setCell ⟨b, 3, none⟩ v3).setCell ⟨b, 4, none⟩ v4).setCell ⟨b, 5, none⟩ v5).setCell ⟨b, 6, none⟩ v6) :=
 (((zdo h hb v0 v1 v2 v3).setCell (p := ⟨b, 4, none⟩) hb v4).setCell (p := ⟨b, 5, none⟩) hb v5).setCell (p := ⟨b, 6, none⟩) hb v6
theorem rname_any (s : ByteArray) (a : Nat) (w : World) (h0 : a < s.size) (hs : s.size ≤ 140737488355328) (hn : zax (s[a].toNat : Int) = true) (R : Value) (hR : RCut a (zbz (s.data.toList.drop a)) = R) :
  Calls Tryz.prog 169 #[.string s, .int .i64 a] w fun e w' => e = .returned R ∧ Below w.heap.size w w' := by
 obtain ⟨n, hnn⟩ : ∃ n, n = zai zax (s.data.toList.drop a) := ⟨_, rfl⟩
 have hn1 : 1 + zai zax (s.data.toList.drop a).tail = n := by
  rw [hnn, drop_cons s a h0, zcv _ _ _ hn]; rfl
 have hle : a + n ≤ s.size := by
  have := zen zax (s.data.toList.drop a)
  rw [← hnn, List.length_drop, zc2] at this
  omega
 have hR' : R = if 32 < n then zcf 2 ((a + 32 : Nat) : Int) else ze5 (a : Int) (kindOf ((s.data.toList.drop a).take n)) ⟨((s.data.toList.drop a).take n).toArray⟩ 0 ((a + n : Nat) : Int) := by
  rw [← hR, zbz, hn1]
  split <;> rfl
 have HR := za3 hR'
 have HNN := za3 hnn
 have hnp : 1 ≤ n := by omega
 clear hR hR' hn1 hnn
 go_enter Tryz.func169, Tryz.ntmps169
 go_wp2
 go_loop [5] (fun i => ∃ k : Nat, a ≤ k ∧ k ≤ s.size ∧ k ≤ a + 32 ∧ k ≤ a + n ∧ i = .int .i64 k ∧ Hid (a + n = k + zai zax (s.data.toList.drop k))) (fun i => s.size - (intOf i).toNat)
 case atStart => exact ⟨a, by omega, by omega, by omega, by omega, rfl, by show _ = _; rw [za0 HNN]⟩
 case round =>
  obtain ⟨k, hk0, hk1, hk2, hk3, rfl, HK⟩ := hrel
  by_cases hlt : k < s.size
  ·have hd := drop_cons s k hlt
   have hlt' : (k : Int) < (s.size : Int) := by omega
   by_cases hb : zax (s[k].toNat : Int) = true
   ·have HN : Hid (a + n = (k + 1) + zai zax (s.data.toList.drop (k + 1))) := by
     have e := za0 HK
     rw [hd, zcv _ _ _ hb] at e
     show _ = _
     omega
    have hkn : k + 1 ≤ a + n := by have := za0 HN; omega
    by_cases h32 : k = a + 32
    ·have q : ((k : Int) - (a : Int) == 32) = true := by rw [beq_iff_eq]; omega
     have HW : Hid (zcf 2 (k : Int) = R) := by
      show _ = _
      rw [za0 HR, if_pos (by omega), h32]
     clear hd HK HR HN h32
     go_wp2_with (first | (go_at_call 182; refine (zf4 _ _).mono ?_; rintro e w' ⟨rfl, rfl⟩; rw [hb]) | (go_at_call 172; refine (zc3 _ _ _).mono ?_; rintro e w1 ⟨rfl, hb1⟩; obtain ⟨hc, hf⟩ := zd4 hb1; dsimp only [zcf]))
     exact bodyPost_ret (v := zcf 2 (k : Int)) (by simp [results, Tryz.results169, go_sem, hc, zcf]) rfl ⟨zbs (za0 HW), zcm ((Below.refl _ _).alloc (Nat.le_refl _) _ |>.trans (hb1.mono (by simp))) (Nat.le_refl _) _ _ _ _ _ _ _⟩
    ·have q : ((k : Int) - (a : Int) == 32) = false := by rw [beq_eq_false_iff_ne]; omega
     clear hd HK
     go_wp2_with (first | (go_at_call 182; refine (zf4 _ _).mono ?_; rintro e w' ⟨rfl, rfl⟩; rw [hb]))
     go_round
     case rel => exact ⟨k + 1, by omega, by omega, by omega, hkn, by go_num, HN⟩
     case measure => simp [intOf]; omega
   ·have hb := (Bool.not_eq_true _).mp hb
    have hkn : k = a + n := by
     have e := za0 HK
     rw [hd, zej _ _ _ hb] at e
     omega
    have hn32 : ¬ 32 < n := by omega
    have hk32 : k ≤ s.size := hk1
    have HS : Hid ((⟨((s.data.toList.drop a).take n).toArray⟩ : ByteArray) = s.extract a k) := by
     show _ = _
     rw [hkn]; exact (zcj s a n).symm
    have hhd : Lx.hd ((s.data.toList.drop a).take n) = (s[a].toNat : Int) := by
     obtain ⟨m, rfl⟩ : ∃ m, n = m + 1 := ⟨n - 1, by omega⟩
     rw [drop_cons s a h0]; rfl
    have hdat : (s.extract a k).data.toList = (s.data.toList.drop a).take n := by rw [← za0 HS]
    have HR2 : Hid (R = ze5 (a : Int) (kindOf ((s.data.toList.drop a).take n)) (s.extract a k) 0 (k : Int)) := by
     show _ = _
     rw [za0 HR, if_neg hn32, za0 HS, ← hkn]
    clear HR HS HK
    by_cases hgr : zd1 (s[a].toNat : Int) = true
    ·have HR3 : Hid (ze5 (a : Int) 2 (s.extract a k) 0 (k : Int) = R) := by show _ = _; rw [za0 HR2, zk2 (by rw [hhd]; exact hgr)]
     clear HR2 hdat hhd hkn
     go_wp2_with (first | (go_at_call 182; refine (zf4 _ _).mono ?_; rintro e w' ⟨rfl, rfl⟩; rw [hb]) | (go_at_call 167; refine (zb2 _ _).mono ?_; rintro e w' ⟨rfl, rfl⟩; rw [hgr]))
     exact bodyPost_ret (v := ze5 (a : Int) 2 (s.extract a k) 0 (k : Int)) (by simp [results, Tryz.results169, go_sem, ze5]) rfl ⟨zbs (za0 HR3), zg9 _ _ _⟩
    ·have hgr := (Bool.not_eq_true _).mp hgr
     by_cases hw : words.contains (s.extract a k).data.toList = true
     ·have HR3 : Hid (ze5 (a : Int) 3 (s.extract a k) 0 (k : Int) = R) := by show _ = _; rw [za0 HR2, word_kind' (by rw [← hdat]; exact hw)]
      have WD := za3 (fun W => zia (s.extract a k) true hw W)
      clear HR2 hdat hhd hkn hw
      go_wp2_with (first | (go_at_call 182; refine (zf4 _ _).mono ?_; rintro e w' ⟨rfl, rfl⟩; rw [hb]) | (go_at_call 167; refine (zb2 _ _).mono ?_; rintro e w' ⟨rfl, rfl⟩; rw [hgr]) | (go_at_call 183; refine (za0 WD _).mono ?_; rintro e w1 ⟨rfl, hb1⟩; obtain ⟨hc, hf⟩ := zd4 hb1; have hz := hb1.size))
      have hB1 : Below w.heap.size w w1 := (((Below.refl _ _).alloc (Nat.le_refl _) _).alloc (by simp) _).trans (hb1.mono (by simp; omega))
      have hx : ∀ o, (w1.setCell ⟨w.heap.size + 1, 1, none⟩ (.int .i64 3)).cell? ⟨w.heap.size, o, none⟩ = w1.cell? ⟨w.heap.size, o, none⟩ := fun o => World.cell?_setCell_other _ _ _ _ (by simp)
      have k0 : (w1.setCell ⟨w.heap.size + 1, 1, none⟩ (.int .i64 3)).cell? ⟨w.heap.size, 0, none⟩ = some (.int .i64 0) := by rw [hx, hc _ _ (by simp; omega)]; exact (World.cell?_alloc_lt _ _ ⟨w.heap.size, _, none⟩ (by simp)).trans (by rw [World.cell?_alloc_at _ _ _ _ (by rfl)]; rfl)
      have k1 : (w1.setCell ⟨w.heap.size + 1, 1, none⟩ (.int .i64 3)).cell? ⟨w.heap.size, 1, none⟩ = some (.int .i64 0) := by rw [hx, hc _ _ (by simp; omega)]; exact (World.cell?_alloc_lt _ _ ⟨w.heap.size, _, none⟩ (by simp)).trans (by rw [World.cell?_alloc_at _ _ _ _ (by rfl)]; rfl)
      have k2 : (w1.setCell ⟨w.heap.size + 1, 1, none⟩ (.int .i64 3)).cell? ⟨w.heap.size, 2, none⟩ = some (.string ⟨#[]⟩) := by rw [hx, hc _ _ (by simp; omega)]; exact (World.cell?_alloc_lt _ _ ⟨w.heap.size, _, none⟩ (by simp)).trans (by rw [World.cell?_alloc_at _ _ _ _ (by rfl)]; rfl)
      have k3 : (w1.setCell ⟨w.heap.size + 1, 1, none⟩ (.int .i64 3)).cell? ⟨w.heap.size, 3, none⟩ = some (.int .i64 0) := by rw [hx, hc _ _ (by simp; omega)]; exact (World.cell?_alloc_lt _ _ ⟨w.heap.size, _, none⟩ (by simp)).trans (by rw [World.cell?_alloc_at _ _ _ _ (by rfl)]; rfl)
      have k4 : (w1.setCell ⟨w.heap.size + 1, 1, none⟩ (.int .i64 3)).cell? ⟨w.heap.size, 4, none⟩ = some (.int .i64 0) := by rw [hx, hc _ _ (by simp; omega)]; exact (World.cell?_alloc_lt _ _ ⟨w.heap.size, _, none⟩ (by simp)).trans (by rw [World.cell?_alloc_at _ _ _ _ (by rfl)]; rfl)
      have k5 : (w1.setCell ⟨w.heap.size + 1, 1, none⟩ (.int .i64 3)).cell? ⟨w.heap.size, 5, none⟩ = some (.int .i64 0) := by rw [hx, hc _ _ (by simp; omega)]; exact (World.cell?_alloc_lt _ _ ⟨w.heap.size, _, none⟩ (by simp)).trans (by rw [World.cell?_alloc_at _ _ _ _ (by rfl)]; rfl)
      have k6 : (w1.setCell ⟨w.heap.size + 1, 1, none⟩ (.int .i64 3)).cell? ⟨w.heap.size, 6, none⟩ = some (.int .i64 0) := by rw [hx, hc _ _ (by simp; omega)]; exact (World.cell?_alloc_lt _ _ ⟨w.heap.size, _, none⟩ (by simp)).trans (by rw [World.cell?_alloc_at _ _ _ _ (by rfl)]; rfl)
      have hB2 := hB1.setCell (p := ⟨w.heap.size + 1, 1, none⟩) (Nat.le_succ _) (.int .i64 3)
      clear hx hc hf hz hB1 hb1
      revert k0 k1 k2 k3 k4 k5 k6 hB2
      generalize w1.setCell ⟨w.heap.size + 1, 1, none⟩ (.int .i64 3) = W2
      intro k0 k1 k2 k3 k4 k5 k6 hB2
      exact bodyPost_ret (v := ze5 (a : Int) 3 (s.extract a k) 0 (k : Int)) (by simp [results, Tryz.results169, go_sem, k0, k1, k2, k3, k4, k5, k6, ze5]) rfl ⟨zbs (za0 HR3), zcm hB2 (Nat.le_refl _) _ _ _ _ _ _ _⟩
     ·have hw := (Bool.not_eq_true _).mp hw
      have HR3 : Hid (ze5 (a : Int) 1 (s.extract a k) 0 (k : Int) = R) := by show _ = _; rw [za0 HR2, name_kind' (by rw [hhd]; exact hgr) (by rw [← hdat]; exact hw)]
      have WD := za3 (fun W => zia (s.extract a k) false hw W)
      clear HR2 hdat hhd hkn hw
      go_wp2_with (first | (go_at_call 182; refine (zf4 _ _).mono ?_; rintro e w' ⟨rfl, rfl⟩; rw [hb]) | (go_at_call 167; refine (zb2 _ _).mono ?_; rintro e w' ⟨rfl, rfl⟩; rw [hgr]) | (go_at_call 183; refine (za0 WD _).mono ?_; rintro e w1 ⟨rfl, hb1⟩; obtain ⟨hc, hf⟩ := zd4 hb1; have hz := hb1.size))
      have hB1 : Below w.heap.size w w1 := (((Below.refl _ _).alloc (Nat.le_refl _) _).alloc (by simp) _).trans (hb1.mono (by simp; omega))
      have k0 : w1.cell? ⟨w.heap.size, 0, none⟩ = some (.int .i64 0) := by rw [hc _ _ (by simp; omega)]; exact (World.cell?_alloc_lt _ _ ⟨w.heap.size, _, none⟩ (by simp)).trans (by rw [World.cell?_alloc_at _ _ _ _ (by rfl)]; rfl)
      have k1 : w1.cell? ⟨w.heap.size, 1, none⟩ = some (.int .i64 0) := by rw [hc _ _ (by simp; omega)]; exact (World.cell?_alloc_lt _ _ ⟨w.heap.size, _, none⟩ (by simp)).trans (by rw [World.cell?_alloc_at _ _ _ _ (by rfl)]; rfl)
      have k2 : w1.cell? ⟨w.heap.size, 2, none⟩ = some (.string ⟨#[]⟩) := by rw [hc _ _ (by simp; omega)]; exact (World.cell?_alloc_lt _ _ ⟨w.heap.size, _, none⟩ (by simp)).trans (by rw [World.cell?_alloc_at _ _ _ _ (by rfl)]; rfl)
      have k3 : w1.cell? ⟨w.heap.size, 3, none⟩ = some (.int .i64 0) := by rw [hc _ _ (by simp; omega)]; exact (World.cell?_alloc_lt _ _ ⟨w.heap.size, _, none⟩ (by simp)).trans (by rw [World.cell?_alloc_at _ _ _ _ (by rfl)]; rfl)
      have k4 : w1.cell? ⟨w.heap.size, 4, none⟩ = some (.int .i64 0) := by rw [hc _ _ (by simp; omega)]; exact (World.cell?_alloc_lt _ _ ⟨w.heap.size, _, none⟩ (by simp)).trans (by rw [World.cell?_alloc_at _ _ _ _ (by rfl)]; rfl)
      have k5 : w1.cell? ⟨w.heap.size, 5, none⟩ = some (.int .i64 0) := by rw [hc _ _ (by simp; omega)]; exact (World.cell?_alloc_lt _ _ ⟨w.heap.size, _, none⟩ (by simp)).trans (by rw [World.cell?_alloc_at _ _ _ _ (by rfl)]; rfl)
      have k6 : w1.cell? ⟨w.heap.size, 6, none⟩ = some (.int .i64 0) := by rw [hc _ _ (by simp; omega)]; exact (World.cell?_alloc_lt _ _ ⟨w.heap.size, _, none⟩ (by simp)).trans (by rw [World.cell?_alloc_at _ _ _ _ (by rfl)]; rfl)
      clear hc hf hz hb1
      exact bodyPost_ret (v := ze5 (a : Int) 1 (s.extract a k) 0 (k : Int)) (by simp [results, Tryz.results169, go_sem, k0, k1, k2, k3, k4, k5, k6, ze5]) rfl ⟨zbs (za0 HR3), zcm hB1 (Nat.le_refl _) _ _ _ _ _ _ _⟩
  ·have hkn : k = a + n := by
    have e := za0 HK
    rw [List.drop_of_length_le (i := k) (by rw [zc2]; omega), runLen_nil] at e
    omega
   have hn32 : ¬ 32 < n := by omega
   have hk32 : k ≤ s.size := hk1
   have HS : Hid ((⟨((s.data.toList.drop a).take n).toArray⟩ : ByteArray) = s.extract a k) := by
    show _ = _
    rw [hkn]; exact (zcj s a n).symm
   have hhd : Lx.hd ((s.data.toList.drop a).take n) = (s[a].toNat : Int) := by
    obtain ⟨m, rfl⟩ : ∃ m, n = m + 1 := ⟨n - 1, by omega⟩
    rw [drop_cons s a h0]; rfl
   have hdat : (s.extract a k).data.toList = (s.data.toList.drop a).take n := by rw [← za0 HS]
   have HR2 : Hid (R = ze5 (a : Int) (kindOf ((s.data.toList.drop a).take n)) (s.extract a k) 0 (k : Int)) := by
    show _ = _
    rw [za0 HR, if_neg hn32, za0 HS, ← hkn]
   clear HR HS HK
   by_cases hgr : zd1 (s[a].toNat : Int) = true
   ·have HR3 : Hid (ze5 (a : Int) 2 (s.extract a k) 0 (k : Int) = R) := by show _ = _; rw [za0 HR2, zk2 (by rw [hhd]; exact hgr)]
    clear HR2 hdat hhd hkn
    go_wp2_with (first | (go_at_call 182; fail) | (go_at_call 167; refine (zb2 _ _).mono ?_; rintro e w' ⟨rfl, rfl⟩; rw [hgr]))
    exact bodyPost_ret (v := ze5 (a : Int) 2 (s.extract a k) 0 (k : Int)) (by simp [results, Tryz.results169, go_sem, ze5]) rfl ⟨zbs (za0 HR3), zg9 _ _ _⟩
   ·have hgr := (Bool.not_eq_true _).mp hgr
    by_cases hw : words.contains (s.extract a k).data.toList = true
    ·have HR3 : Hid (ze5 (a : Int) 3 (s.extract a k) 0 (k : Int) = R) := by show _ = _; rw [za0 HR2, word_kind' (by rw [← hdat]; exact hw)]
     have WD := za3 (fun W => zia (s.extract a k) true hw W)
     clear HR2 hdat hhd hkn hw
     go_wp2_with (first | (go_at_call 182; fail) | (go_at_call 167; refine (zb2 _ _).mono ?_; rintro e w' ⟨rfl, rfl⟩; rw [hgr]) | (go_at_call 183; refine (za0 WD _).mono ?_; rintro e w1 ⟨rfl, hb1⟩; obtain ⟨hc, hf⟩ := zd4 hb1; have hz := hb1.size))
     have hB1 : Below w.heap.size w w1 := (((Below.refl _ _).alloc (Nat.le_refl _) _).alloc (by simp) _).trans (hb1.mono (by simp; omega))
     have hx : ∀ o, (w1.setCell ⟨w.heap.size + 1, 1, none⟩ (.int .i64 3)).cell? ⟨w.heap.size, o, none⟩ = w1.cell? ⟨w.heap.size, o, none⟩ := fun o => World.cell?_setCell_other _ _ _ _ (by simp)
     have k0 : (w1.setCell ⟨w.heap.size + 1, 1, none⟩ (.int .i64 3)).cell? ⟨w.heap.size, 0, none⟩ = some (.int .i64 0) := by rw [hx, hc _ _ (by simp; omega)]; exact (World.cell?_alloc_lt _ _ ⟨w.heap.size, _, none⟩ (by simp)).trans (by rw [World.cell?_alloc_at _ _ _ _ (by rfl)]; rfl)
     have k1 : (w1.setCell ⟨w.heap.size + 1, 1, none⟩ (.int .i64 3)).cell? ⟨w.heap.size, 1, none⟩ = some (.int .i64 0) := by rw [hx, hc _ _ (by simp; omega)]; exact (World.cell?_alloc_lt _ _ ⟨w.heap.size, _, none⟩ (by simp)).trans (by rw [World.cell?_alloc_at _ _ _ _ (by rfl)]; rfl)
     have k2 : (w1.setCell ⟨w.heap.size + 1, 1, none⟩ (.int .i64 3)).cell? ⟨w.heap.size, 2, none⟩ = some (.string ⟨#[]⟩) := by rw [hx, hc _ _ (by simp; omega)]; exact (World.cell?_alloc_lt _ _ ⟨w.heap.size, _, none⟩ (by simp)).trans (by rw [World.cell?_alloc_at _ _ _ _ (by rfl)]; rfl)
     have k3 : (w1.setCell ⟨w.heap.size + 1, 1, none⟩ (.int .i64 3)).cell? ⟨w.heap.size, 3, none⟩ = some (.int .i64 0) := by rw [hx, hc _ _ (by simp; omega)]; exact (World.cell?_alloc_lt _ _ ⟨w.heap.size, _, none⟩ (by simp)).trans (by rw [World.cell?_alloc_at _ _ _ _ (by rfl)]; rfl)
     have k4 : (w1.setCell ⟨w.heap.size + 1, 1, none⟩ (.int .i64 3)).cell? ⟨w.heap.size, 4, none⟩ = some (.int .i64 0) := by rw [hx, hc _ _ (by simp; omega)]; exact (World.cell?_alloc_lt _ _ ⟨w.heap.size, _, none⟩ (by simp)).trans (by rw [World.cell?_alloc_at _ _ _ _ (by rfl)]; rfl)
     have k5 : (w1.setCell ⟨w.heap.size + 1, 1, none⟩ (.int .i64 3)).cell? ⟨w.heap.size, 5, none⟩ = some (.int .i64 0) := by rw [hx, hc _ _ (by simp; omega)]; exact (World.cell?_alloc_lt _ _ ⟨w.heap.size, _, none⟩ (by simp)).trans (by rw [World.cell?_alloc_at _ _ _ _ (by rfl)]; rfl)
     have k6 : (w1.setCell ⟨w.heap.size + 1, 1, none⟩ (.int .i64 3)).cell? ⟨w.heap.size, 6, none⟩ = some (.int .i64 0) := by rw [hx, hc _ _ (by simp; omega)]; exact (World.cell?_alloc_lt _ _ ⟨w.heap.size, _, none⟩ (by simp)).trans (by rw [World.cell?_alloc_at _ _ _ _ (by rfl)]; rfl)
     have hB2 := hB1.setCell (p := ⟨w.heap.size + 1, 1, none⟩) (Nat.le_succ _) (.int .i64 3)
     clear hx hc hf hz hB1 hb1
     revert k0 k1 k2 k3 k4 k5 k6 hB2
     generalize w1.setCell ⟨w.heap.size + 1, 1, none⟩ (.int .i64 3) = W2
     intro k0 k1 k2 k3 k4 k5 k6 hB2
     exact bodyPost_ret (v := ze5 (a : Int) 3 (s.extract a k) 0 (k : Int)) (by simp [results, Tryz.results169, go_sem, k0, k1, k2, k3, k4, k5, k6, ze5]) rfl ⟨zbs (za0 HR3), zcm hB2 (Nat.le_refl _) _ _ _ _ _ _ _⟩
    ·have hw := (Bool.not_eq_true _).mp hw
     have HR3 : Hid (ze5 (a : Int) 1 (s.extract a k) 0 (k : Int) = R) := by show _ = _; rw [za0 HR2, name_kind' (by rw [hhd]; exact hgr) (by rw [← hdat]; exact hw)]
     have WD := za3 (fun W => zia (s.extract a k) false hw W)
     clear HR2 hdat hhd hkn hw
     go_wp2_with (first | (go_at_call 182; fail) | (go_at_call 167; refine (zb2 _ _).mono ?_; rintro e w' ⟨rfl, rfl⟩; rw [hgr]) | (go_at_call 183; refine (za0 WD _).mono ?_; rintro e w1 ⟨rfl, hb1⟩; obtain ⟨hc, hf⟩ := zd4 hb1; have hz := hb1.size))
     have hB1 : Below w.heap.size w w1 := (((Below.refl _ _).alloc (Nat.le_refl _) _).alloc (by simp) _).trans (hb1.mono (by simp; omega))
     have k0 : w1.cell? ⟨w.heap.size, 0, none⟩ = some (.int .i64 0) := by rw [hc _ _ (by simp; omega)]; exact (World.cell?_alloc_lt _ _ ⟨w.heap.size, _, none⟩ (by simp)).trans (by rw [World.cell?_alloc_at _ _ _ _ (by rfl)]; rfl)
     have k1 : w1.cell? ⟨w.heap.size, 1, none⟩ = some (.int .i64 0) := by rw [hc _ _ (by simp; omega)]; exact (World.cell?_alloc_lt _ _ ⟨w.heap.size, _, none⟩ (by simp)).trans (by rw [World.cell?_alloc_at _ _ _ _ (by rfl)]; rfl)
     have k2 : w1.cell? ⟨w.heap.size, 2, none⟩ = some (.string ⟨#[]⟩) := by rw [hc _ _ (by simp; omega)]; exact (World.cell?_alloc_lt _ _ ⟨w.heap.size, _, none⟩ (by simp)).trans (by rw [World.cell?_alloc_at _ _ _ _ (by rfl)]; rfl)
     have k3 : w1.cell? ⟨w.heap.size, 3, none⟩ = some (.int .i64 0) := by rw [hc _ _ (by simp; omega)]; exact (World.cell?_alloc_lt _ _ ⟨w.heap.size, _, none⟩ (by simp)).trans (by rw [World.cell?_alloc_at _ _ _ _ (by rfl)]; rfl)
     have k4 : w1.cell? ⟨w.heap.size, 4, none⟩ = some (.int .i64 0) := by rw [hc _ _ (by simp; omega)]; exact (World.cell?_alloc_lt _ _ ⟨w.heap.size, _, none⟩ (by simp)).trans (by rw [World.cell?_alloc_at _ _ _ _ (by rfl)]; rfl)
     have k5 : w1.cell? ⟨w.heap.size, 5, none⟩ = some (.int .i64 0) := by rw [hc _ _ (by simp; omega)]; exact (World.cell?_alloc_lt _ _ ⟨w.heap.size, _, none⟩ (by simp)).trans (by rw [World.cell?_alloc_at _ _ _ _ (by rfl)]; rfl)
     have k6 : w1.cell? ⟨w.heap.size, 6, none⟩ = some (.int .i64 0) := by rw [hc _ _ (by simp; omega)]; exact (World.cell?_alloc_lt _ _ ⟨w.heap.size, _, none⟩ (by simp)).trans (by rw [World.cell?_alloc_at _ _ _ _ (by rfl)]; rfl)
     clear hc hf hz hb1
     exact bodyPost_ret (v := ze5 (a : Int) 1 (s.extract a k) 0 (k : Int)) (by simp [results, Tryz.results169, go_sem, k0, k1, k2, k3, k4, k5, k6, ze5]) rfl ⟨zbs (za0 HR3), zcm hB1 (Nat.le_refl _) _ _ _ _ _ _ _⟩
namespace Lx
def zbt : Bs → Nat → Nat
 | [], u => u
 | c :: r, u => zbt r (u * 10 + (c.toNat - 48))
theorem digVal_ge : ∀ (l : Bs) (u : Nat), u ≤ zbt l u
 | [], _ => Nat.le_refl _
 | c :: r, u => by have := digVal_ge r (u * 10 + (c.toNat - 48)); rw [zbt]; omega
theorem digVal_app : ∀ (a b : Bs) (u : Nat), zbt (a ++ b) u = zbt b (zbt a u)
 | [], _, _ => rfl
 | _ :: a, b, _ => digVal_app a b _
theorem digVal_lt : ∀ (l : Bs) (u : Nat), (∀ c ∈ l, zab (c.toNat : Int) = true) → zbt l u < (u + 1) * 10 ^ l.length
 | [], u, _ => by simp [zbt]
 | c :: r, u, h => by
  have hc : zab (c.toNat : Int) = true := h c (by simp)
  simp only [zab, Bool.and_eq_true, decide_eq_true_eq] at hc
  have := digVal_lt r (u * 10 + (c.toNat - 48)) (fun x hx => h x (by simp [hx]))
  rw [zbt, List.length_cons, Nat.pow_succ, Nat.mul_comm (10 ^ r.length), ← Nat.mul_assoc]
  refine Nat.lt_of_lt_of_le this (Nat.mul_le_mul_right _ (by omega))
theorem fold_val : ∀ (l : Bs) (u : Nat), (∀ c ∈ l, zab (c.toNat : Int) = true) → zbc l (u : Int) = if zbt l u ≤ 9223372036854775807 ∨ l = [] then some (zbt l u : Int) else none
 | [], u, _ => by simp [zbc, zbt]
 | c :: r, u, h => by
  have hc : zab (c.toNat : Int) = true := h c (by simp)
  simp only [zab, Bool.and_eq_true, decide_eq_true_eq] at hc
  have ih := fold_val r (u * 10 + (c.toNat - 48)) (fun x hx => h x (by simp [hx]))
  have e : ((u : Int) * 10 + ((c.toNat : Int) - 48)) = ((u * 10 + (c.toNat - 48) : Nat) : Int) := by omega
  rw [zbc, zbt, e, ih]
  have hge := digVal_ge r (u * 10 + (c.toNat - 48))
  by_cases hv : zbt r (u * 10 + (c.toNat - 48)) ≤ 9223372036854775807
  ·rw [if_neg (by omega), if_pos (.inl hv), if_pos (.inl hv)]
  ·have hr : (if zbt r (u * 10 + (c.toNat - 48)) ≤ 9223372036854775807 ∨ c :: r = [] then some (zbt r (u * 10 + (c.toNat - 48)) : Int) else none) = none := if_neg (by simp [hv])
   rw [hr]
   by_cases hq : (9223372036854775807 - ((c.toNat : Int) - 48)) / 10 < (u : Int)
   ·rw [if_pos hq]
   ·rw [if_neg hq]
    cases r with
    | nil =>
     exfalso
     apply hv
     show u * 10 + (c.toNat - 48) ≤ _
     omega
    | cons d r => rw [if_neg (by simp [hv])]
theorem number_val {ds : Bs} (h : ∀ c ∈ ds, zab (c.toNat : Int) = true) (h0 : ds ≠ []) : number ds = if (hd ds = 48 ∧ 1 < ds.length) ∨ ¬ zbt ds 0 ≤ 9223372036854775807 then none else some (zbt ds 0 : Int) := by
 unfold number
 by_cases hz : hd ds = 48 ∧ 1 < ds.length
 ·rw [if_pos hz, if_pos (.inl hz)]
 ·rw [if_neg hz]
  have := fold_val ds 0 h
  rw [show ((0 : Nat) : Int) = 0 from rfl] at this
  rw [this]
  by_cases hv : zbt ds 0 ≤ 9223372036854775807
  ·rw [if_pos (.inl hv), if_neg (by simp [hz, hv])]
  ·rw [if_neg (by simp [hv, h0]), if_pos (.inr hv)]
theorem digVal_big : ∀ (l : Bs) (u : Nat), (∀ c ∈ l, zab (c.toNat : Int) = true) → u * 10 ^ l.length ≤ zbt l u
 | [], u, _ => by simp [zbt]
 | c :: r, u, h => by
  have := digVal_big r (u * 10 + (c.toNat - 48)) (fun x hx => h x (by simp [hx]))
  rw [zbt, List.length_cons, Nat.pow_succ, Nat.mul_comm (10 ^ r.length), ← Nat.mul_assoc]
  exact Nat.le_trans (Nat.mul_le_mul_right _ (by omega)) this
theorem digVal_20 {l : Bs} (h : ∀ c ∈ l, zab (c.toNat : Int) = true) (hl : 20 ≤ l.length) : (hd l = 48 ∧ 1 < l.length) ∨ ¬ zbt l 0 ≤ 9223372036854775807 := by
 cases l with
 | nil => simp at hl
 | cons c r =>
  have hc : zab (c.toNat : Int) = true := h c (by simp)
  simp only [zab, Bool.and_eq_true, decide_eq_true_eq] at hc
  rw [List.length_cons] at hl
  by_cases hz : hd (c :: r) = 48
  ·exact .inl ⟨hz, by rw [List.length_cons]; omega⟩
  ·right
   have hz' : (c.toNat : Int) ≠ 48 := hz
   have h1 := digVal_big r (0 * 10 + (c.toNat - 48)) (fun x hx => h x (by simp [hx]))
   have h2 : 10 ^ 19 ≤ 10 ^ r.length := Nat.pow_le_pow_right (by omega) (by omega)
   rw [show (10 : Nat) ^ 19 = 10000000000000000000 from by decide] at h2
   have h3 : 1 * 10 ^ r.length ≤ (0 * 10 + (c.toNat - 48)) * 10 ^ r.length := Nat.mul_le_mul_right _ (by omega)
   show ¬ zbt r (0 * 10 + (c.toNat - 48)) ≤ _
   omega
end Lx
theorem rnumber_any (s : ByteArray) (a : Nat) (w : World) (h0 : a < s.size) (hs : s.size ≤ 140737488355328) (hn : zab (s[a].toNat : Int) = true) (R : Value) (hR : RCut a (zas (s.data.toList.drop a)) = R) :
  Calls Tryz.prog 170 #[.string s, .int .i64 a] w fun e w' => e = .returned R ∧ Below w.heap.size w w' := by
 obtain ⟨n, hnn⟩ : ∃ n, n = zai zab (s.data.toList.drop a) := ⟨_, rfl⟩
 have hn1 : zbr (s.data.toList.drop a) = n := by
  rw [hnn, zbr, drop_cons s a h0, zcv _ _ _ hn]; rfl
 have hle : a + n ≤ s.size := by
  have := zen zab (s.data.toList.drop a)
  rw [← hnn, List.length_drop, zc2] at this
  omega
 have hnp : 1 ≤ n := by rw [← hn1, zbr]; omega
 obtain ⟨D, hD⟩ : ∃ D : Bs, D = (s.data.toList.drop a).take n := ⟨_, rfl⟩
 have hDl : D.length = n := by rw [hD, List.length_take, List.length_drop, zc2]; omega
 have hDa : ∀ c ∈ D, zab (c.toNat : Int) = true := by rw [hD, hnn]; exact run_all zab _
 have hDh : Lx.hd D = (s[a].toNat : Int) := by
  obtain ⟨m, rfl⟩ : ∃ m, n = m + 1 := ⟨n - 1, by omega⟩
  rw [hD, drop_cons s a h0]; rfl
 have hDn : D ≠ [] := by intro e; rw [e] at hDl; simp at hDl; omega
 have hnum := number_val hDa hDn
 have hrest : (s.data.toList.drop a).drop n = s.data.toList.drop (a + n) := by rw [List.drop_drop]
 have hR' : R = match number D with
   | none => zcf 11 (a : Int)
   | some v => if s.data.toList.drop (a + n) ≠ [] ∧ zax (Lx.hd (s.data.toList.drop (a + n))) = true then zcf 11 (a : Int) else ze5 (a : Int) 4 ⟨#[]⟩ v ((a + n : Nat) : Int) := by
  rw [← hR, zas, hn1, ← hD, hrest]
  cases number D with
  | none => rfl
  | some v =>
   simp only
   split <;> rfl
 have HR : Hid (((Lx.hd D = 48 ∧ 1 < n) ∨ ¬ zbt D 0 ≤ 9223372036854775807 → zcf 11 (a : Int) = R) ∧ (¬ ((Lx.hd D = 48 ∧ 1 < n) ∨ ¬ zbt D 0 ≤ 9223372036854775807) → (s.data.toList.drop (a + n) ≠ [] ∧ zax (Lx.hd (s.data.toList.drop (a + n))) = true → zcf 11 (a : Int) = R) ∧
   (¬ (s.data.toList.drop (a + n) ≠ [] ∧ zax (Lx.hd (s.data.toList.drop (a + n))) = true) → ze5 (a : Int) 4 ⟨#[]⟩ (zbt D 0 : Int) ((a + n : Nat) : Int) = R))) := by
  rw [hDl] at hnum
  refine ⟨fun h => ?_, fun h => ⟨fun h2 => ?_, fun h2 => ?_⟩⟩
  ·rw [hR', hnum, if_pos h]
  ·rw [hR', hnum, if_neg h]; simp only; rw [if_pos h2]
  ·rw [hR', hnum, if_neg h]; simp only; rw [if_neg h2]
 rw [hDh] at HR
 have HK : Hid (∀ k, a ≤ k → k < a + n → ∃ h : k < s.size, zab (s[k].toNat : Int) = true ∧ D.take (k + 1 - a) = D.take (k - a) ++ [s[k]]) := by
  intro k h1 h2
  have hk : k < s.size := by omega
  have he : D[k - a]? = some s[k] := by
   rw [hD, List.getElem?_take_of_lt (by omega), List.getElem?_drop, show a + (k - a) = k from by omega, ← List.head?_drop, drop_cons s k hk]; rfl
  refine ⟨hk, hDa _ (List.mem_of_getElem? he), ?_⟩
  rw [show k + 1 - a = (k - a) + 1 from by omega, List.take_add_one, he]; rfl
 have HE : Hid (a + n = s.size ∨ ∃ h : a + n < s.size, zab (s[a + n].toNat : Int) = false) := by
  have := run_rest zab (s.data.toList.drop a)
  rw [← hnn, hrest] at this
  rcases Nat.lt_or_ge (a + n) s.size with h | h
  ·right
   refine ⟨h, ?_⟩
   rw [drop_cons s (a + n) h] at this
   exact this.resolve_left (by simp)
  ·left; omega
 have HV : Hid (∀ k, a ≤ k → k ≤ a + n → k ≤ a + 19 → zbt (D.take (k - a)) 0 < 10 ^ (k - a)) := by
  intro k h1 h2 h3
  have := digVal_lt (D.take (k - a)) 0 (fun c hc => hDa c (List.mem_of_mem_take hc))
  rw [List.length_take, show min (k - a) D.length = k - a from by omega] at this
  omega
 have hT : D.take n = D := List.take_of_length_le (by omega)
 have HT := za3 hT
 have h20 : Hid (20 ≤ n → ((s[a].toNat : Int) = 48 ∧ 1 < n) ∨ ¬ zbt D 0 ≤ 9223372036854775807) := by
  intro h
  have := digVal_20 hDa (by omega)
  rw [hDh, hDl] at this
  exact this
 clear hR hR' hnum hn1 hnn hD hDa hDh hDn hrest hT hn
 go_enter Tryz.func170, Tryz.ntmps170
 go_wp2
 go_loop [5, 6] (fun i u => ∃ (k v : Nat), a ≤ k ∧ k ≤ a + n ∧ k ≤ a + 19 ∧ i = .int .i64 k ∧ u = .int .u64 (v : Int) ∧ Hid (v = zbt (D.take (k - a)) 0)) (fun i _ => s.size - (intOf i).toNat)
 case atStart => exact ⟨a, 0, by omega, by omega, by omega, rfl, rfl, by show _ = _; rw [Nat.sub_self]; rfl⟩
 case round =>
  obtain ⟨k, v, hk0, hk1, hk2, rfl, rfl, HU⟩ := hrel
  by_cases hlt : k < a + n
  ·obtain ⟨hks, hb, htk⟩ := za0 HK k hk0 hlt
   have hlt' : (k : Int) < (s.size : Int) := by omega
   by_cases h19 : k = a + 19
   ·have q : 18 < (k : Int) - (a : Int) := by omega
    have HW : Hid (zcf 11 (a : Int) = R) := (za0 HR).1 (za0 h20 (by omega))
    clear HR HU HK HV HE h19 htk
    go_wp2_with (first | (go_at_call 168; refine (zbg _ _).mono ?_; rintro e w' ⟨rfl, rfl⟩; rw [hb]) | (go_at_call 172; refine (zc3 _ _ _).mono ?_; rintro e w1 ⟨rfl, hb1⟩; obtain ⟨hc, hf⟩ := zd4 hb1; dsimp only [zcf]))
    exact bodyPost_ret (v := zcf 11 (a : Int)) (by simp [results, Tryz.results170, go_sem, hc, zcf]) rfl ⟨zbs (za0 HW), zcm ((Below.refl _ _).alloc (Nat.le_refl _) _ |>.trans (hb1.mono (by simp))) (Nat.le_refl _) _ _ _ _ _ _ _⟩
   ·have q : (k : Int) - (a : Int) ≤ 18 := by omega
    have hv : v < 1000000000000000000 := by
     have h1 := za0 HV k hk0 hk1 hk2
     rw [← za0 HU] at h1
     have h2 : 10 ^ (k - a) ≤ 10 ^ 18 := Nat.pow_le_pow_right (by omega) (by omega)
     rw [show (10 : Nat) ^ 18 = 1000000000000000000 from by decide] at h2
     omega
    have hd48 : 48 ≤ (s[k].toNat : Int) ∧ (s[k].toNat : Int) ≤ 57 := by simpa [zab] using hb
    obtain ⟨d48, d57⟩ := hd48
    have HN : Hid (v * 10 + (s[k].toNat - 48) = zbt (D.take (k + 1 - a)) 0) := by
     show _ = _
     rw [htk, digVal_app, ← za0 HU]; rfl
    clear HU HK HV HE h19 htk HR
    go_wp2_with (first | (go_at_call 168; refine (zbg _ _).mono ?_; rintro e w' ⟨rfl, rfl⟩; rw [hb]))
    go_round
    case rel => exact ⟨k + 1, v * 10 + (s[k].toNat - 48), by omega, by omega, by omega, by go_num, by go_num, HN⟩
    case measure => simp [intOf]; omega
  ·have hk : k = a + n := by omega
   have hv : v = zbt D 0 := by
    rw [za0 HU, hk, Nat.add_sub_cancel_left, za0 HT]
   have hv19 : v < 10000000000000000000 := by
    have h1 := za0 HV _ hk0 hk1 hk2
    rw [← za0 HU, hk, Nat.add_sub_cancel_left] at h1
    have h2 : 10 ^ n ≤ 10 ^ 19 := Nat.pow_le_pow_right (by omega) (by omega)
    rw [show (10 : Nat) ^ 19 = 10000000000000000000 from by decide] at h2
    omega
   rw [← hv, ← hk] at HR
   have HE2 := za0 HE
   rw [← hk] at HE2
   clear HU HK HV HE HT h20 hv
   have hnz : ((s[a].toNat : Int) = 48 ∧ 1 < n) ∨ (((s[a].toNat : Int) == 48) = true ∧ ¬ 1 < n) ∨ ((s[a].toNat : Int) == 48) = false := by
    by_cases h : (s[a].toNat : Int) = 48
    ·by_cases h2 : 1 < n
     ·exact .inl ⟨h, h2⟩
     ·exact .inr (.inl ⟨by simp [h], h2⟩)
    ·exact .inr (.inr (by simpa using h))
   have hnot : ((((s[a].toNat : Int) == 48) = true ∧ ¬ 1 < n) ∨ ((s[a].toNat : Int) == 48) = false) → ¬ ((s[a].toNat : Int) = 48 ∧ 1 < n) := by
    rintro (⟨_, h⟩ | h) ⟨h1, h2⟩
    ·exact h h2
    ·rw [h1] at h; simp at h
   rcases HE2 with hend | ⟨hks, hb⟩
   ·have hend' : (k : Int) = (s.size : Int) := by omega
    rcases hnz with ⟨z1, z2⟩ | hzz
    ·have HW : Hid (zcf 11 (a : Int) = R) := (za0 HR).1 (.inl ⟨z1, z2⟩)
     have z1' : ((s[a].toNat : Int) == 48) = true := by simp [z1]
     have z2' : (a : Int) + 1 < (k : Int) := by omega
     clear HR hnot z1 z2 hk
     go_wp2_with (first | (go_at_call 168; fail) | (go_at_call 172; refine (zc3 _ _ _).mono ?_; rintro e w1 ⟨rfl, hb1⟩; obtain ⟨hc, hf⟩ := zd4 hb1; dsimp only [zcf]))
     exact bodyPost_ret (v := zcf 11 (a : Int)) (by simp [results, Tryz.results170, go_sem, hc, zcf]) rfl ⟨zbs (za0 HW), zcm ((Below.refl _ _).alloc (Nat.le_refl _) _ |>.trans (hb1.mono (by simp))) (Nat.le_refl _) _ _ _ _ _ _ _⟩
    ·have hno := hnot hzz
     have hzz' : (((s[a].toNat : Int) == 48) = true ∧ (k : Int) ≤ (a : Int) + 1) ∨ ((s[a].toNat : Int) == 48) = false := or_map hzz (fun h => ⟨h.1, by omega⟩) id
     clear hnot hzz
     by_cases hbig : v ≤ 9223372036854775807
     ·have hbig' : ¬ 9223372036854775808 ≤ (v : Int) := by omega
      have HW : Hid (ze5 (a : Int) 4 ⟨#[]⟩ (v : Int) (k : Int) = R) := ((za0 HR).2 (by rintro (h | h); exact hno h; exact h hbig)).2 (by rintro ⟨h, _⟩; exact h (List.drop_of_length_le (by rw [zc2]; omega)))
      clear HR hno hbig hk
      rcases hzz' with ⟨z1, z2⟩ | z1
      all_goals
       go_wp2_with (first | (go_at_call 168; fail))
       exact bodyPost_ret (v := ze5 (a : Int) 4 ⟨#[]⟩ (v : Int) (k : Int)) (by simp [results, Tryz.results170, go_sem, ze5]; omega) rfl ⟨zbs (za0 HW), zg9 _ _ _⟩
     ·have hbig' : 9223372036854775808 ≤ (v : Int) := by omega
      have HW : Hid (zcf 11 (a : Int) = R) := (za0 HR).1 (.inr hbig)
      clear HR hno hbig hk
      rcases hzz' with ⟨z1, z2⟩ | z1
      all_goals
       go_wp2_with (first | (go_at_call 168; fail) | (go_at_call 172; refine (zc3 _ _ _).mono ?_; rintro e w1 ⟨rfl, hb1⟩; obtain ⟨hc, hf⟩ := zd4 hb1; dsimp only [zcf]))
       exact bodyPost_ret (v := zcf 11 (a : Int)) (by simp [results, Tryz.results170, go_sem, hc, zcf]) rfl ⟨zbs (za0 HW), zcm ((Below.refl _ _).alloc (Nat.le_refl _) _ |>.trans (hb1.mono (by simp))) (Nat.le_refl _) _ _ _ _ _ _ _⟩
   ·have hks' : (k : Int) < (s.size : Int) := by omega
    rcases hnz with ⟨z1, z2⟩ | hzz
    ·have HW : Hid (zcf 11 (a : Int) = R) := (za0 HR).1 (.inl ⟨z1, z2⟩)
     have z1' : ((s[a].toNat : Int) == 48) = true := by simp [z1]
     have z2' : (a : Int) + 1 < (k : Int) := by omega
     clear HR hnot z1 z2 hk
     go_wp2_with (first | (go_at_call 168; refine (zbg _ _).mono ?_; rintro e w' ⟨rfl, rfl⟩; rw [hb]) | (go_at_call 172; refine (zc3 _ _ _).mono ?_; rintro e w1 ⟨rfl, hb1⟩; obtain ⟨hc, hf⟩ := zd4 hb1; dsimp only [zcf]))
     exact bodyPost_ret (v := zcf 11 (a : Int)) (by simp [results, Tryz.results170, go_sem, hc, zcf]) rfl ⟨zbs (za0 HW), zcm ((Below.refl _ _).alloc (Nat.le_refl _) _ |>.trans (hb1.mono (by simp))) (Nat.le_refl _) _ _ _ _ _ _ _⟩
    ·have hno := hnot hzz
     have hzz' : (((s[a].toNat : Int) == 48) = true ∧ (k : Int) ≤ (a : Int) + 1) ∨ ((s[a].toNat : Int) == 48) = false := or_map hzz (fun h => ⟨h.1, by omega⟩) id
     clear hnot hzz
     by_cases hbig : v ≤ 9223372036854775807
     ·have hbig' : ¬ 9223372036854775808 ≤ (v : Int) := by omega
      have hnm : zax (Lx.hd (s.data.toList.drop k)) = (ze3 (s[k].toNat : Int) || zd1 (s[k].toNat : Int) || ((s[k].toNat : Int) == 95)) := by
       rw [hd_at s k hks, zax, hb]; simp
      have hne : s.data.toList.drop k ≠ [] := by rw [drop_cons s k hks]; simp
      have HR2 := (za0 HR).2 (by rintro (h | h); exact hno h; exact h hbig)
      rw [hnm] at HR2
      clear HR hno hnm hbig hk
      by_cases f1 : ze3 (s[k].toNat : Int) = true
      ·have HW : Hid (zcf 11 (a : Int) = R) := HR2.1 ⟨hne, by rw [f1]; rfl⟩
       clear HR2 hne
       rcases hzz' with ⟨z1, z2⟩ | z1
       all_goals
        go_wp2_with (first | (go_at_call 168; refine (zbg _ _).mono ?_; rintro e w' ⟨rfl, rfl⟩; rw [hb]) | (go_at_call 166; refine (zbp _ _).mono ?_; rintro e w' ⟨rfl, rfl⟩; rw [f1]) | (go_at_call 172; refine (zc3 _ _ _).mono ?_; rintro e w1 ⟨rfl, hb1⟩; obtain ⟨hc, hf⟩ := zd4 hb1; dsimp only [zcf]))
        exact bodyPost_ret (v := zcf 11 (a : Int)) (by simp [results, Tryz.results170, go_sem, hc, zcf]) rfl ⟨zbs (za0 HW), zcm ((Below.refl _ _).alloc (Nat.le_refl _) _ |>.trans (hb1.mono (by simp))) (Nat.le_refl _) _ _ _ _ _ _ _⟩
      ·have f1 := (Bool.not_eq_true _).mp f1
       by_cases f2 : zd1 (s[k].toNat : Int) = true
       ·have HW : Hid (zcf 11 (a : Int) = R) := HR2.1 ⟨hne, by rw [f1, f2]; rfl⟩
        clear HR2 hne
        rcases hzz' with ⟨z1, z2⟩ | z1
        all_goals
         go_wp2_with (first | (go_at_call 168; refine (zbg _ _).mono ?_; rintro e w' ⟨rfl, rfl⟩; rw [hb]) | (go_at_call 166; refine (zbp _ _).mono ?_; rintro e w' ⟨rfl, rfl⟩; rw [f1]) | (go_at_call 167; refine (zb2 _ _).mono ?_; rintro e w' ⟨rfl, rfl⟩; rw [f2]) | (go_at_call 172; refine (zc3 _ _ _).mono ?_; rintro e w1 ⟨rfl, hb1⟩; obtain ⟨hc, hf⟩ := zd4 hb1; dsimp only [zcf]))
         exact bodyPost_ret (v := zcf 11 (a : Int)) (by simp [results, Tryz.results170, go_sem, hc, zcf]) rfl ⟨zbs (za0 HW), zcm ((Below.refl _ _).alloc (Nat.le_refl _) _ |>.trans (hb1.mono (by simp))) (Nat.le_refl _) _ _ _ _ _ _ _⟩
       ·have f2 := (Bool.not_eq_true _).mp f2
        by_cases f3 : ((s[k].toNat : Int) == 95) = true
        ·have HW : Hid (zcf 11 (a : Int) = R) := HR2.1 ⟨hne, by rw [f1, f2, f3]; rfl⟩
         clear HR2 hne
         rcases hzz' with ⟨z1, z2⟩ | z1
         all_goals
          go_wp2_with (first | (go_at_call 168; refine (zbg _ _).mono ?_; rintro e w' ⟨rfl, rfl⟩; rw [hb]) | (go_at_call 166; refine (zbp _ _).mono ?_; rintro e w' ⟨rfl, rfl⟩; rw [f1]) | (go_at_call 167; refine (zb2 _ _).mono ?_; rintro e w' ⟨rfl, rfl⟩; rw [f2]) | (go_at_call 172; refine (zc3 _ _ _).mono ?_; rintro e w1 ⟨rfl, hb1⟩; obtain ⟨hc, hf⟩ := zd4 hb1; dsimp only [zcf]))
          exact bodyPost_ret (v := zcf 11 (a : Int)) (by simp [results, Tryz.results170, go_sem, hc, zcf]) rfl ⟨zbs (za0 HW), zcm ((Below.refl _ _).alloc (Nat.le_refl _) _ |>.trans (hb1.mono (by simp))) (Nat.le_refl _) _ _ _ _ _ _ _⟩
        ·have f3 := (Bool.not_eq_true _).mp f3
         have HW : Hid (ze5 (a : Int) 4 ⟨#[]⟩ (v : Int) (k : Int) = R) := HR2.2 (by rintro ⟨_, h⟩; rw [f1, f2, f3] at h; cases h)
         have e4 : IntKind.i64.wrap (v : Int) = (v : Int) := by rw [IntKind.wrap_i64]; omega
         have q9 : decide ((9223372036854775808 : Int) ≤ (v : Int)) = false := decide_eq_false hbig'
         clear HR2 hne hbig' hv19
         rcases hzz' with ⟨z1, z2⟩ | z1
         all_goals
          go_wp2_with (first | (go_at_call 168; refine (zbg _ _).mono ?_; rintro e w' ⟨rfl, rfl⟩; rw [hb]) | (go_at_call 166; refine (zbp _ _).mono ?_; rintro e w' ⟨rfl, rfl⟩; rw [f1]) | (go_at_call 167; refine (zb2 _ _).mono ?_; rintro e w' ⟨rfl, rfl⟩; rw [f2]))
          exact bodyPost_ret (v := ze5 (a : Int) 4 ⟨#[]⟩ (v : Int) (k : Int)) (by simp [results, Tryz.results170, go_sem, ze5]) rfl ⟨zbs (za0 HW), zg9 _ _ _⟩
     ·have hbig' : 9223372036854775808 ≤ (v : Int) := by omega
      have HW : Hid (zcf 11 (a : Int) = R) := (za0 HR).1 (.inr hbig)
      clear HR hno hbig hk
      rcases hzz' with ⟨z1, z2⟩ | z1
      all_goals
       go_wp2_with (first | (go_at_call 168; refine (zbg _ _).mono ?_; rintro e w' ⟨rfl, rfl⟩; rw [hb]) | (go_at_call 172; refine (zc3 _ _ _).mono ?_; rintro e w1 ⟨rfl, hb1⟩; obtain ⟨hc, hf⟩ := zd4 hb1; dsimp only [zcf]))
       exact bodyPost_ret (v := zcf 11 (a : Int)) (by simp [results, Tryz.results170, go_sem, hc, zcf]) rfl ⟨zbs (za0 HW), zcm ((Below.refl _ _).alloc (Nat.le_refl _) _ |>.trans (hb1.mono (by simp))) (Nat.le_refl _) _ _ _ _ _ _ _⟩
end Go.Proofs.YtmpbbmfbgcpplaaGreatDoor
