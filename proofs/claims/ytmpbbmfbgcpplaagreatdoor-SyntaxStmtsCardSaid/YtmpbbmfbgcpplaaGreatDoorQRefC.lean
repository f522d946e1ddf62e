import Derived.Test.YtmpbbmfbgcpplaaGreatDoorQRefB
import Derived.Test.YtmpbbmfbgcpplaaGreatDoorQLaws6
import Derived.Test.YtmpbbmfbgcpplaaGreatDoorQLexB
import Derived.Lib.ItoaLen
import Derived.Laws.IdiomStrings
import Derived.Deep.RegionWith
set_option maxHeartbeats 2000000
set_option maxRecDepth 100000
namespace Go.Proofs.YtmpbbmfbgcpplaaGreatDoor
open Go Go.RowKit Lx
namespace Lx
theorem self_lex {k : Int} {S : Bs} (hk : k = 1 ∨ k = 2 ∨ k = 3) (hS : S.length ≤ 65536) (h : zb1 k S = true) : lex S = ([(0, k, S, 0)], none) := by
 have hs : sound (0, k, S, 0) = true := by
  rw [sound, if_pos (by simp only; omega)]
  simp [h]
 have ht : za5 (0, k, S, 0) = S := zay (by simp only; omega) (by simp only; omega)
 obtain ⟨h0, hb, hc⟩ := sound_cut (t := (0, k, S, 0)) (r := []) hs (by simp) (.inl rfl)
 rw [ht] at h0 hb hc
 rw [List.append_nil] at hc
 obtain ⟨hk0, _⟩ := begin_skip hb
 have hd0 : S.drop (skip S) = S := by rw [hk0]; rfl
 have hl := Lay.tok S 0 k 0 S S.length [] (by rw [hd0]; exact h0) (by rw [hd0]; exact hb) (by rw [hd0]; exact hc) (Lay.done _ _ (by simp [List.drop_of_length_le]))
 rw [hk0] at hl
 exact lex_of hS hl (by simp)
theorem lex_self {k v : Int} {S : Bs} {p : Nat} (hk : k = 1 ∨ k = 2 ∨ k = 3) (h : lex S = ([(p, k, S, v)], none)) : v = 0 ∧ zb1 k S = true := by
 obtain ⟨_, hl, _⟩ := lex_ok h
 rcases hl.back with ⟨_, h⟩ | ⟨k', v', s', m, us, h0, hb, hc, _, he⟩
 ·cases h
 ·cases he
  obtain ⟨_, _, _, hs, _⟩ := cut_is h0 hb hc
  rw [sound, if_pos (by simp only; omega), Bool.and_eq_true] at hs
  exact ⟨by simpa using hs.1, hs.2⟩
theorem sign_self (S : Bs) : zb1 6 S = signRows.contains S := by
 by_cases h : signRows.contains S = true
 ·have hm : S ∈ signRows := by simpa using h
  have hall : ∀ r ∈ signRows, zb1 6 r = true := by decide +kernel
  rw [h, hall S hm]
 ·have hn := (Bool.not_eq_true _).mp h
  rw [hn]
  rw [← Bool.not_eq_true]
  intro hc
  apply h
  cases S with
  | nil => simp [zb1] at hc
  | cons c t =>
   simp only [zb1, Bool.and_eq_true] at hc
   obtain ⟨hb, hc⟩ := hc
   rcases hx : cut (c :: t) with ⟨o, y⟩ | ⟨k', s', v', n⟩
   ·rw [hx] at hc; cases hc
   ·rw [hx] at hc
    simp only [Bool.and_eq_true, beq_iff_eq] at hc
    obtain ⟨hn', hk'⟩ := hc
    subst hk' hn'
    unfold cut at hx
    split at hx
    ·unfold zas at hx
     split at hx
     ·cases hx
     ·split at hx <;> cases hx
    ·split at hx
     ·unfold zb6 at hx
      split at hx <;> cases hx
     ·split at hx
      ·rename_i hs
       have hf := sign_two (c :: t) hs (by simp)
       unfold zc0 at hx
       split at hx
       ·rename_i hp
        rw [if_pos hp] at hf
        injection hx with hx
        have hl : 2 = (c :: t).length := by injection hx with _ hx; injection hx with _ hx; injection hx
        cases t with
        | nil => simp at hl
        | cons d u =>
         have : u = [] := List.eq_nil_of_length_eq_zero (by simp only [List.length_cons] at hl; omega)
         subst this
         simp [List.isPrefixOf] at hp
         obtain ⟨rfl, rfl⟩ := hp
         decide
       ·rename_i hp
        rw [if_neg hp] at hf
        injection hx with hx
        have hl : 1 = (c :: t).length := by injection hx with _ hx; injection hx with _ hx; injection hx
        have : t = [] := List.eq_nil_of_length_eq_zero (by simp only [List.length_cons] at hl; omega)
        subst this
        have := List.mem_of_find?_eq_some hf
        simpa using this
      ·have := (name_is hx).2.2.1
       rcases zlu s' with h | h | h <;> omega
end Lx
theorem app_esc (A : ByteArray) (s : ByteArray) (k : Nat) (hk : k < s.size) : (A ++ s.extract k (k + 1)).data.toList = A.data.toList ++ [s[k]] ∧ (A ++ s.extract k (k + 1)).size = A.size + 1 := by
 have e : (s.extract k (k + 1)).data.toList = [s[k]] := by
  rw [zcj, drop_cons s k hk]; rfl
 have h1 : (A ++ s.extract k (k + 1)).data.toList = A.data.toList ++ [s[k]] := by
  rw [← e]; simp
 exact ⟨h1, by rw [← zc2, h1, ← zc2 A]; simp⟩
theorem app_lit (A : ByteArray) (l : Bs) : (A ++ ⟨l.toArray⟩).data.toList = A.data.toList ++ l ∧ (A ++ ⟨l.toArray⟩).size = A.size + l.length := by
 have h1 : (A ++ (⟨l.toArray⟩ : ByteArray)).data.toList = A.data.toList ++ l := by simp
 exact ⟨h1, by rw [← zc2, h1, ← zc2 A]; simp⟩
theorem quote_ends {A s : ByteArray} (h : A.data.toList = 34 :: zgw s.data.toList) : A ++ ⟨#[34]⟩ = ⟨(quote s.data.toList).toArray⟩ := by
 apply ByteArray.ext
 apply Array.ext'
 rw [show (⟨#[34]⟩ : ByteArray) = ⟨[34].toArray⟩ from rfl, (app_lit A [34]).1, h]
 rfl
theorem rQuote_any (s : ByteArray) (w : World) (hs : s.size ≤ 1000000) : Calls Tryz.prog 48 #[.string s] w fun e w' => e = .returned (.string ⟨(quote s.data.toList).toArray⟩) ∧ w = w' := by
 go_enter Tryz.func48, Tryz.ntmps48
 go_wp2
 go_loop [3, 4] (fun o i => ∃ (k : Nat) (A : ByteArray), k ≤ s.size ∧ i = .int .i64 k ∧ o = .string A ∧ A.size ≤ 1 + 2 * k ∧ Hid (34 :: zgw s.data.toList = A.data.toList ++ zgw (s.data.toList.drop k))) (fun _ i => s.size - (intOf i).toNat)
 case atStart => exact ⟨0, ⟨#[34]⟩, by omega, rfl, rfl, by decide, rfl⟩
 case round =>
  obtain ⟨k, A, hk, rfl, rfl, hA, HA⟩ := hrel
  by_cases hlt : k < s.size
  ·have hd := drop_cons s k hlt
   have e := za0 HA
   rw [hd, zct] at e
   have hlt' : (k : Int) < (s.size : Int) := by omega
   have sl : (Instr.slice 9 (.string s) (some (.int .i64 (k : Int))) (some (.int .i64 ((k : Int) + 1))) none).run Tryz.prog w = .ok (.string (s.extract k (k + 1))) w := by
    have := run_slice_string (P := Tryz.prog) w 9 s .i64 .i64 (k : Int) ((k : Int) + 1) Tryz.underlying9 (by omega) (by omega) (by omega)
    rw [this, show ((k : Int)).toNat = k from by omega, show ((k : Int) + 1).toNat = k + 1 from by omega]
   by_cases h10 : (s[k].toNat : Int) = 10
   ·have q1 : ((s[k].toNat : Int) == 10) = true := by simp [h10]
    obtain ⟨a1, a2⟩ := app_lit A [92, 110]
    have HN : Hid (34 :: zgw s.data.toList = (A ++ ⟨[92, 110].toArray⟩).data.toList ++ zgw (s.data.toList.drop (k + 1))) := by
     show _ = _
     rw [a1, e, zcp (n := 10) (by decide) h10]
     simp [zka]
    have hN : (A ++ ⟨[92, 110].toArray⟩).size ≤ 1 + 2 * (k + 1) := by rw [a2]; simp; omega
    clear e h10 hd HA a1 a2
    go_wp2
    go_round
    case rel => exact ⟨k + 1, _, by omega, by go_num, rfl, hN, HN⟩
    case measure => simp [intOf]; omega
   ·have q1 : ((s[k].toNat : Int) == 10) = false := by simpa using h10
    have n10 : s[k] ≠ 10 := fun h => h10 (by rw [h]; rfl)
    by_cases hq : (s[k].toNat : Int) = 34 ∨ (s[k].toNat : Int) = 92
    ·obtain ⟨b1, b2⟩ := app_lit A [92]
     obtain ⟨a1, a2⟩ := app_esc (A ++ ⟨[92].toArray⟩) s k hlt
     have HN : Hid (34 :: zgw s.data.toList = ((A ++ ⟨[92].toArray⟩) ++ s.extract k (k + 1)).data.toList ++ zgw (s.data.toList.drop (k + 1))) := by
      show _ = _
      rw [a1, b1, e]
      rcases hq with h | h
      ·rw [zcp (n := 34) (by decide) h]; simp [zka]
      ·rw [zcp (n := 92) (by decide) h]; simp [zka]
     have hN : ((A ++ ⟨[92].toArray⟩) ++ s.extract k (k + 1)).size ≤ 1 + 2 * (k + 1) := by rw [a2, b2]; simp; omega
     have hb2 : (A ++ ⟨[92].toArray⟩).size ≤ 2 + 2 * k := by rw [b2]; simp; omega
     have hq' : ((s[k].toNat : Int) == 34) = true ∨ (((s[k].toNat : Int) == 34) = false ∧ ((s[k].toNat : Int) == 92) = true) := by
      rcases hq with h | h
      ·left; simp [h]
      ·right; constructor <;> simp [h]
     clear e h10 hd HA a1 a2 b1 b2 n10 hq
     rcases hq' with q2 | ⟨q2, q3⟩
     all_goals
      go_wp2
      go_round
      case rel => exact ⟨k + 1, _, by omega, by go_num, rfl, hN, HN⟩
      case measure => simp [intOf]; omega
    ·have q2 : ((s[k].toNat : Int) == 34) = false := by simp; omega
     have q3 : ((s[k].toNat : Int) == 92) = false := by simp; omega
     have n34 : s[k] ≠ 34 := fun h => hq (.inl (by rw [h]; rfl))
     have n92 : s[k] ≠ 92 := fun h => hq (.inr (by rw [h]; rfl))
     obtain ⟨a1, a2⟩ := app_esc A s k hlt
     have HN : Hid (34 :: zgw s.data.toList = (A ++ s.extract k (k + 1)).data.toList ++ zgw (s.data.toList.drop (k + 1))) := by
      show _ = _
      rw [a1, e, zka, if_neg n10, if_neg n34, if_neg n92]
      simp
     have hN : (A ++ s.extract k (k + 1)).size ≤ 1 + 2 * (k + 1) := by rw [a2]; omega
     clear e h10 hd HA a1 a2 n10 n34 n92 hq
     go_wp2
     go_round
     case rel => exact ⟨k + 1, _, by omega, by go_num, rfl, hN, HN⟩
     case measure => simp [intOf]; omega
  ·have HE : Hid (A ++ ⟨#[34]⟩ = ⟨(quote s.data.toList).toArray⟩) := by
    have e := za0 HA
    rw [List.drop_of_length_le (i := k) (by simp; omega)] at e
    exact quote_ends (by rw [e]; simp [zgw])
   clear HA
   go_wp2
   go_ret
   exact ⟨congrArg (fun x => Ending.returned (Value.string x)) (za0 HE), rfl⟩
theorem str1 (W : World) (b : Nat) (x : UInt8) (v : Int) (hv : v = (x.toNat : Int)) (h : W.cell? ⟨b, 0, none⟩ = some (.int .u8 v)) :
  (convert 130 9 (.slice (some ⟨b, 0, none⟩) 1 1)).run Tryz.prog W = .ok (.string ⟨#[x]⟩) W := by
 subst hv
 refine run_convert_bytes_back (P := Tryz.prog) W 130 9 5 ⟨b, 0, none⟩ 1 [x] Tryz.underlying130 Tryz.underlying5 Tryz.underlying9 fun j hj => ?_
 have : j = 0 := by simp at hj; omega
 subst this
 exact h
theorem str1_new (W : World) (x : UInt8) (v : Int) (hv : v = (x.toNat : Int)) :
  (convert 130 9 (.slice (some ⟨W.heap.size, 0, none⟩) 1 1)).run Tryz.prog (W.alloc (.cells #[.int .u8 v] 5)) = .ok (.string ⟨#[x]⟩) (W.alloc (.cells #[.int .u8 v] 5)) :=
 str1 _ _ x v hv (by rw [World.cell?_alloc_at _ _ _ _ (by rfl)]; rfl)
theorem str1_drew (W : World) (x : UInt8) (v : Int) (hv : v = (x.toNat : Int)) :
  (convert 130 9 (.slice (some ⟨W.heap.size, 0, none⟩) 1 1)).run Tryz.prog (W.alloc (.cells #[.int .u8 v] 5)).drew = .ok (.string ⟨#[x]⟩) (W.alloc (.cells #[.int .u8 v] 5)).drew :=
 str1 _ _ x v hv (by show (W.alloc (.cells #[.int .u8 v] 5)).cell? _ = _; rw [World.cell?_alloc_at _ _ _ _ (by rfl)]; rfl)
theorem str1_below {W w1 : World} (x : UInt8) (v : Int) (hv : v = (x.toNat : Int)) (hb : Below (W.alloc (.cells #[.int .u8 v] 5)).drew.heap.size (W.alloc (.cells #[.int .u8 v] 5)).drew w1) :
  (convert 130 9 (.slice (some ⟨W.heap.size, 0, none⟩) 1 1)).run Tryz.prog w1 = .ok (.string ⟨#[x]⟩) w1 :=
 str1 _ _ x v hv ((hb.cell (p := ⟨W.heap.size, 0, none⟩) (by show W.heap.size < (W.alloc _).heap.size; simp)).trans (by show (W.alloc (.cells #[.int .u8 v] 5)).cell? _ = _; rw [World.cell?_alloc_at _ _ _ _ (by rfl)]; rfl))
theorem app_one (l : Bs) (x : UInt8) : (⟨l.toArray⟩ ++ ⟨#[x]⟩ : ByteArray) = ⟨(l ++ [x]).toArray⟩ := by
 apply ByteArray.ext
 apply Array.ext'
 simp
theorem undrew {w W : World} (h : Below w.drew.heap.size w.drew W) : Below w.heap.size w W := ⟨h.os, h.tape, h.output, h.size, h.block⟩
theorem dig_byte {d : Nat} (h : d < 10) : (48 + (d : Int)) = ((UInt8.ofNat (48 + d)).toNat : Int) := by
 rw [UInt8.toNat_ofNat']; omega
theorem Digits_any (n : Nat) (hn : n ≤ 9223372036854775807) (w : World) :
  Calls Tryz.prog 47 #[.int .i64 n] w fun e w' => e = .returned (.string ⟨(Lib.decDigits n).toArray⟩) ∧ Below w.heap.size w w' := by
 induction n using Nat.strongRecOn generalizing w with
 | _ n ih =>
  by_cases h : n < 10
  ·obtain ⟨x, hx, hv⟩ : ∃ x : UInt8, Lib.decDigits n = [x] ∧ 48 + (n : Int) = (x.toNat : Int) := ⟨_, by rw [Lib.decDigits, dif_pos h], dig_byte h⟩
   have HF := za3 hx
   have kc := fun W => str1_new W x (48 + n) hv
   clear ih hv hx
   go_enter Tryz.func47, Tryz.ntmps47
   go_wp2
   go_ret
   exact ⟨by rw [za0 HF]; rfl, (Below.refl _ _).alloc (Nat.le_refl _) _⟩
  ·obtain ⟨q, hq⟩ : ∃ q : Nat, q = n / 10 := ⟨_, rfl⟩
   obtain ⟨r, hr⟩ : ∃ r : Nat, r = n % 10 := ⟨_, rfl⟩
   obtain ⟨x, hx, hv⟩ : ∃ x : UInt8, Lib.decDigits n = Lib.decDigits q ++ [x] ∧ 48 + (r : Int) = (x.toNat : Int) := ⟨_, by rw [Lib.decDigits, dif_neg h, hq], by rw [hr]; exact dig_byte (by omega)⟩
   have HF := za3 hx
   have IH := za3 (fun W => ih q (by omega) (by omega) W)
   have HL : ByteArray.size ⟨(Lib.decDigits q).toArray⟩ ≤ 20 := by show (Lib.decDigits q).toArray.size ≤ _; rw [List.size_toArray, Lib.decDigits_length]; exact Lib.nDigits_le20 _ (by omega)
   have HL2 : (Lib.decDigits q).length ≤ 20 := by rw [Lib.decDigits_length]; exact Lib.nDigits_le20 _ (by omega)
   have kc := fun W => str1_new W x (48 + r) hv
   have kc2 := fun W => str1_drew W x (48 + r) hv
   have KD := za3 (fun W w1 hb => str1_below (W := W) (w1 := w1) x (48 + r) hv hb)
   have e1 : IntKind.i64.wrap ((n : Int) / 10) = (q : Int) := by rw [IntKind.wrap_i64]; omega
   have e2 : (n : Int).tmod 10 = (r : Int) := by rw [hr]; simp [Int.tmod]
   have e3 : IntKind.i64.wrap (48 + (r : Int)) = 48 + (r : Int) := by rw [IntKind.wrap_i64]; omega
   have e4 : IntKind.u8.wrap (48 + (r : Int)) = 48 + (r : Int) := by rw [IntKind.wrap_u8]; omega
   clear ih hx hq hr hv
   go_enter Tryz.func47, Tryz.ntmps47
   go_wp2
   go_region_with (go_at_call 47; refine (za0 IH _).mono ?_; rintro e w1 ⟨rfl, hb⟩; obtain ⟨hc', hf'⟩ := zd4 hb; have hz := hb.size; try (have kd := za0 KD _ _ hb))
   all_goals
    go_wp2
    go_ret
    refine ⟨by rw [za0 HF]; exact congrArg (fun s => Ending.returned (Value.string s)) (app_one _ _), ?_⟩
    first
    | exact (undrew hb).alloc hz _
    | exact ((Below.refl _ _).alloc (Nat.le_refl _) _).trans ((undrew hb).mono (by simp))
def ROne (w : World) (t : Tok) (e : Ending) (W' : World) : Prop :=
 ∃ X : ByteArray, e = .returned (.tuple #[.string X, .bool (sound t)]) ∧ (sound t = true → X = ⟨(za5 t).toArray⟩) ∧ Below w.heap.size w W'
theorem ROne.no {w W' : World} {t : Tok} {X : ByteArray} (h : sound t = false) (hb : Below w.heap.size w W') : ROne w t (.returned (.tuple #[.string X, .bool false])) W' := ⟨X, by rw [h], fun h' => (by rw [h] at h'; cases h'), hb⟩
theorem ROne.yes {w W' : World} {t : Tok} {X : ByteArray} (h : sound t = true) (hX : X = ⟨(za5 t).toArray⟩) (hb : Below w.heap.size w W') : ROne w t (.returned (.tuple #[.string X, .bool true])) W' := ⟨X, by rw [h], fun _ => hX, hb⟩
theorem back_data (s : ByteArray) : s = ⟨s.data.toList.toArray⟩ := by cases s; simp
theorem rOne_num (a v : Int) (s : ByteArray) (w : World) (hs : s.size ≤ 1000000) (v1 : v ≤ 9223372036854775807) :
  Calls Tryz.prog 93 #[.agg #[.int .i64 a, .int .i64 4, .string s, .int .i64 v]] w fun e W' => ROne w (0, 4, s.data.toList, v) e W' := by
 by_cases hv : v < 0
 ·have hno : Hid (sound (0, 4, s.data.toList, v) = false) := by show _ = _; simp [sound]; omega
  go_enter Tryz.func93, Tryz.ntmps93
  go_wp2
  go_ret2
  exact ROne.no (za0 hno) ((Below.refl _ _).alloc (Nat.le_refl _) _)
 ·by_cases he : s.data.toList = []
  ·have hse : s = ⟨#[]⟩ := by rw [back_data s, he]
   subst hse
   obtain ⟨n, rfl⟩ : ∃ n : Nat, v = (n : Int) := ⟨v.toNat, by omega⟩
   have hy : Hid (sound (0, 4, [], (n : Int)) = true) := num_sound n
   have DG := za3 (fun W => Digits_any n (by omega) W)
   clear he hs
   go_enter Tryz.func93, Tryz.ntmps93
   go_wp2_with (go_at_call 47; refine (za0 DG _).mono ?_; rintro e w1 ⟨rfl, hb1⟩)
   go_ret2
   exact ROne.yes (za0 hy) (by rw [zdw]) (((Below.refl _ _).alloc (Nat.le_refl _) _).trans (hb1.mono (by simp)))
  ·have hno : Hid (sound (0, 4, s.data.toList, v) = false) := by
    show _ = _
    simp [sound]
    intro h
    exact absurd (by rw [h]) he
   have q : (s.toList == []) = false := by rw [beq_eq_false_iff_ne, toList_data]; exact he
   have q2 : s.toList.isEmpty = false := by rw [toList_data, List.isEmpty_eq_false_iff]; exact he
   clear he
   go_enter Tryz.func93, Tryz.ntmps93
   go_wp2
   go_ret2
   exact ROne.no (za0 hno) ((Below.refl _ _).alloc (Nat.le_refl _) _)
theorem rOne_else (a k v : Int) (s : ByteArray) (w : World) (h : k < 1 ∨ 6 < k) :
  Calls Tryz.prog 93 #[.agg #[.int .i64 a, .int .i64 k, .string s, .int .i64 v]] w fun e W' => ROne w (0, k, s.data.toList, v) e W' := by
 have hno : Hid (sound (0, k, s.data.toList, v) = false) := by
  show _ = _
  rw [sound, if_neg (by simp only; omega), if_neg (by simp only; omega), if_neg (by simp only; omega)]
 have q1 : (k == 1) = false := by simp; omega
 have q2 : (k == 2) = false := by simp; omega
 have q3 : (k == 3) = false := by simp; omega
 have q4 : (k == 4) = false := by simp; omega
 have q5 : (k == 5) = false := by simp; omega
 have q6 : (k == 6) = false := by simp; omega
 clear h
 go_enter Tryz.func93, Tryz.ntmps93
 go_wp2
 go_ret2
 exact ROne.no (za0 hno) ((Below.refl _ _).alloc (Nat.le_refl _) _)
theorem rOne_text (a v : Int) (s : ByteArray) (w : World) (hs : s.size ≤ 1000000) :
  Calls Tryz.prog 93 #[.agg #[.int .i64 a, .int .i64 5, .string s, .int .i64 v]] w fun e W' => ROne w (0, 5, s.data.toList, v) e W' := by
 have QU := za3 (fun W => rQuote_any s W hs)
 go_enter Tryz.func93, Tryz.ntmps93
 go_wp2
 go_loop [7] (fun i => ∃ k : Nat, k ≤ s.size ∧ i = .int .i64 k ∧ Hid (zb3 s.data.toList = zb3 (s.data.toList.drop k))) (fun i => s.size - (intOf i).toNat)
 case atStart => exact ⟨0, by omega, rfl, rfl⟩
 case round =>
  obtain ⟨k, hk, rfl, HK⟩ := hrel
  by_cases hlt : k < s.size
  ·have hd := drop_cons s k hlt
   have e := za0 HK
   rw [hd, zcl] at e
   have hlt' : (k : Int) < (s.size : Int) := by omega
   have hsy : sayB s[k] = ((s[k].toNat : Int) == 10 || zcn (s[k].toNat : Int)) := by
    rw [sayB]
    congr 1
    rw [Bool.eq_iff_iff, beq_iff_eq, beq_iff_eq]
    constructor
    ·intro h; rw [h]; rfl
    ·intro h; exact zcp (n := 10) (by decide) h
   by_cases hb : ((s[k].toNat : Int) == 10 || zcn (s[k].toNat : Int)) = true
   ·have HN : Hid (zb3 s.data.toList = zb3 (s.data.toList.drop (k + 1))) := by
     show _ = _
     rw [e, hsy, hb]; rfl
    clear e hd HK hsy
    go_wp2_with (go_at_call 79; refine (zi4 _ _).mono ?_; rintro e w' ⟨rfl, rfl⟩; rw [hb])
    go_round
    case rel => exact ⟨k + 1, by omega, by go_num, HN⟩
    case measure => simp [intOf]; omega
   ·have hb := (Bool.not_eq_true _).mp hb
    have hno : Hid (sound (0, 5, s.data.toList, v) = false) := by
     show _ = _
     rw [sound, if_neg (by simp), if_neg (by simp), if_pos rfl]
     show (v == 0 && zb3 s.data.toList) = false
     rw [e, hsy, hb]; simp
    clear e hd HK hsy
    go_wp2_with (go_at_call 79; refine (zi4 _ _).mono ?_; rintro e w' ⟨rfl, rfl⟩; rw [hb])
    go_ret2
    exact ROne.no (za0 hno) ((Below.refl _ _).alloc (Nat.le_refl _) _)
  ·have hy : zb3 s.data.toList = true := by
    have e := za0 HK
    rw [List.drop_of_length_le (i := k) (by simp; omega)] at e
    exact e
   have hsd : sound (0, 5, s.data.toList, v) = (v == 0) := by
    rw [sound, if_neg (by simp), if_neg (by simp), if_pos rfl]
    show (v == 0 && zb3 s.data.toList) = _
    rw [hy]; simp
   have HSD := za3 hsd
   clear HK hy hsd
   by_cases hv : v = 0
   ·have q : (v == 0) = true := by simpa using hv
    clear hv
    go_wp2
    go_quiet ((go_at_call 48; exact Calls.quiet_of_same ((za0 QU _).mono fun _ _ h => ⟨h.1, h.2.symm⟩)))
    go_wp2
    go_ret2
    exact ROne.yes (by rw [za0 HSD, q]) (by rw [zcq]) (below_drewN ((Below.refl _ _).alloc (Nat.le_refl _) _) _)
   ·have q : (v == 0) = false := by simpa using hv
    clear hv
    go_wp2
    go_quiet ((go_at_call 48; exact Calls.quiet_of_same ((za0 QU _).mono fun _ _ h => ⟨h.1, h.2.symm⟩)))
    go_wp2
    go_ret2
    exact ROne.no (by rw [za0 HSD, q]) (below_drewN ((Below.refl _ _).alloc (Nat.le_refl _) _) _)
theorem data_inj {a b : ByteArray} (h : a.data.toList = b.data.toList) : a = b := by apply ByteArray.ext; apply Array.ext'; exact h
theorem rOne_sign (a v : Int) (s : ByteArray) (w : World) :
  Calls Tryz.prog 93 #[.agg #[.int .i64 a, .int .i64 6, .string s, .int .i64 v]] w fun e W' => ROne w (0, 6, s.data.toList, v) e W' := by
 have hsd : sound (0, 6, s.data.toList, v) = (v == 0 && signRows.contains s.data.toList) := by
  rw [sound, if_pos (by simp), ← sign_self]
 have HSD := za3 hsd
 clear hsd
 go_enter Tryz.func93, Tryz.ntmps93
 go_wp2_with (go_at_call 134; refine (zip _).mono ?_; rintro e wv ⟨rfl, rfl⟩)
 obtain ⟨O, hO⟩ : ∃ O : Obj, O = .cells #[.int .i64 a, .int .i64 6, .string s, .int .i64 v] 142 := ⟨_, rfl⟩
 have HW := za3 (zky (w.alloc O))
 simp only [World.size_alloc] at HW
 have t2 : ((w.alloc O).alloc (.cells zbv 9)).cell? ⟨w.heap.size, 2, none⟩ = some (.string s) := (World.cell?_alloc_lt _ _ _ (by simp)).trans (by rw [hO, World.cell?_alloc_at _ _ _ _ (by rfl)]; rfl)
 have t3 : ((w.alloc O).alloc (.cells zbv 9)).cell? ⟨w.heap.size, 3, none⟩ = some (.int .i64 v) := (World.cell?_alloc_lt _ _ _ (by simp)).trans (by rw [hO, World.cell?_alloc_at _ _ _ _ (by rfl)]; rfl)
 have HB1 : Below w.heap.size w ((w.alloc O).alloc (.cells zbv 9)) := zg9 _ _ _
 have HS1 : ((w.alloc O).alloc (.cells zbv 9)).heap.size = w.heap.size + 2 := by simp
 rw [← hO]
 clear hO
 revert HW t2 t3 HB1 HS1
 generalize (w.alloc O).alloc (.cells zbv 9) = W1
 clear O
 intro HW t2 t3 HB1 HS1
 go_loopw [9] (fun i wr => ∃ k : Nat, k ≤ 14 ∧ i = .int .i64 k ∧ Below W1.heap.size W1 wr ∧ Hid (signRows.contains s.data.toList = (signRows.drop k).contains s.data.toList)) (fun i _ => 14 - (intOf i).toNat)
 case atStart => exact ⟨0, by omega, rfl, Below.refl _ _, rfl⟩
 case round =>
  obtain ⟨k, hk, rfl, hb, HK⟩ := hrel
  have hbs := hb.size
  by_cases hlt : k < 14
  ·have c0 := (hb.cell (p := ⟨w.heap.size + 1, k, none⟩) (by show w.heap.size + 1 < W1.heap.size; omega)).trans (za0 HW k hlt)
   have r2 := (hb.cell (p := ⟨w.heap.size, 2, none⟩) (by show w.heap.size < W1.heap.size; omega)).trans t2
   have r3 := (hb.cell (p := ⟨w.heap.size, 3, none⟩) (by show w.heap.size < W1.heap.size; omega)).trans t3
   have hlt' : (k : Int) < 14 := by omega
   have hdr : signRows.drop k = signRows.getD k [] :: signRows.drop (k + 1) := by
    have hwl : k < signRows.length := hlt
    rw [List.drop_eq_getElem_cons hwl, List.getD_eq_getElem?_getD, List.getElem?_eq_getElem hwl]; rfl
   have e := za0 HK
   rw [hdr, List.contains_cons] at e
   clear hdr HK
   revert c0 e
   generalize signRows.getD k [] = row
   intro c0 e
   obtain ⟨F, hF⟩ : ∃ F : ByteArray, (⟨row.toArray⟩ : ByteArray) = F := ⟨_, rfl⟩
   have hrow : row = F.data.toList := by rw [← hF]
   rw [hF] at c0
   rw [hrow] at e
   clear hF hrow
   by_cases hw : F = s
   ·have hin : signRows.contains s.data.toList = true := by rw [e, hw]; simp
    have q : (F.toList == s.toList) = true := by rw [hw]; simp
    have HS2 : Hid (sound (0, 6, s.data.toList, v) = (v == 0)) := by show _ = _; rw [za0 HSD, hin]; simp
    clear e hw hin HSD t2 t3 HW
    by_cases hv : v = 0
    ·have qv : (v == 0) = true := by simpa using hv
     clear hv
     go_wp2
     go_quiet (fail)
     go_wp2
     go_quiet (fail)
     go_wp2
     go_ret2
     exact ROne.yes (by rw [za0 HS2, qv]) (by rw [zay (by simp) (by simp)]) (below_drewN (below_drewN (HB1.trans (hb.mono (by omega))) _) _)
    ·have qv : (v == 0) = false := by simpa using hv
     clear hv
     go_wp2
     go_quiet (fail)
     go_wp2
     go_quiet (fail)
     go_wp2
     go_ret2
     exact ROne.no (by rw [za0 HS2, qv]) (below_drewN (below_drewN (HB1.trans (hb.mono (by omega))) _) _)
   ·have q : (F.toList == s.toList) = false := by
     rw [beq_eq_false_iff_ne, toList_data, toList_data]
     exact fun h => hw (data_inj h)
    have HN : Hid (signRows.contains s.data.toList = (signRows.drop (k + 1)).contains s.data.toList) := by
     show _ = _
     rw [e, show (s.data.toList == F.data.toList) = false from by rw [beq_eq_false_iff_ne]; exact fun h => hw (data_inj h.symm)]
     rfl
    clear e hw t2 t3 HW r3
    go_wp2
    go_quiet (fail)
    go_wp2
    go_roundw
    case rel => exact ⟨k + 1, by omega, by go_num, below_drewN hb _, HN⟩
    case measure => simp [intOf]; omega
  ·have hno : Hid (sound (0, 6, s.data.toList, v) = false) := by
    have e := za0 HK
    rw [show signRows.drop k = [] from List.drop_of_length_le (by simp [signRows]; omega)] at e
    show _ = _
    rw [za0 HSD, e]; simp
   clear HK HSD
   go_wp2
   go_ret2
   exact ROne.no (za0 hno) (HB1.trans (hb.mono (by omega)))
theorem lexF_why : ∀ (f : Nat) (l : Bs) (a n p y : Nat), (lexF f l a n).2 = some (p, y) → 2 ≤ y ∧ y ≤ 12
 | 0, l, a, n, p, y, h => by simp [lexF] at h
 | f + 1, l, a, n, p, y, h => by
  rw [lexF] at h
  split at h
  ·cases h
  ·rcases hx : next (l.drop (skip l)) n with ⟨o, z⟩ | ⟨k, s, v, m⟩
   ·rw [hx] at h
    simp only [Option.some.injEq, Prod.mk.injEq] at h
    have := next_why hx
    omega
   ·rw [hx] at h
    exact lexF_why f _ _ _ p y h
theorem lex_why {l : Bs} {p y : Nat} (h : (lex l).2 = some (p, y)) : 2 ≤ y ∧ y ≤ 12 := by
 rw [lex] at h
 split at h
 ·simp only [Option.some.injEq, Prod.mk.injEq] at h; omega
 ·exact lexF_why _ _ _ _ _ _ h
theorem name_sound {k v : Int} {S : Bs} (hk : k = 1 ∨ k = 2 ∨ k = 3) (hS : S.length ≤ 65536) :
  sound (0, k, S, v) = (((rwhy (lex S).2 : Int) == 0) && (((lex S).1.length : Int) == 1) && (((lex S).1.getD 0 (0, 0, [], 0)).2.1 == k) && (((lex S).1.getD 0 (0, 0, [], 0)).2.2.1 == S) && (v == 0)) := by
 have hs : sound (0, k, S, v) = (v == 0 && zb1 k S) := by rw [sound, if_pos (by simp only; omega)]
 rw [hs]
 by_cases hc : zb1 k S = true
 ·rw [self_lex hk hS hc, hc]; simp [rwhy]
 ·have hc' := (Bool.not_eq_true _).mp hc
  rw [hc', Bool.and_false]
  rw [eq_comm, ← Bool.not_eq_true]
  intro h
  apply hc
  simp only [Bool.and_eq_true, beq_iff_eq] at h
  obtain ⟨⟨⟨⟨h1, h2⟩, h3⟩, h4⟩, _⟩ := h
  rcases hl : lex S with ⟨ts, r⟩
  rw [hl] at h1 h2 h3 h4
  have hr : r = none := by
   cases r with
   | none => rfl
   | some x =>
    exfalso
    have : ∃ p y, x = (p, y) := ⟨x.1, x.2, rfl⟩
    obtain ⟨p, y, rfl⟩ := this
    have hy : y = 0 := by simpa [rwhy] using h1
    have : (lex S).2 = some (p, y) := by rw [hl]
    have := lex_why this
    omega
  match ts, h2 with
  | [t], _ =>
   obtain ⟨p, k', s', v'⟩ := t
   simp at h3 h4
   subst h3 h4 hr
   exact (lex_self hk hl).2
theorem rOne_name (a k v : Int) (s : ByteArray) (w : World) (hs : s.size ≤ 60000) (hk : k = 1 ∨ k = 2 ∨ k = 3) :
  Calls Tryz.prog 93 #[.agg #[.int .i64 a, .int .i64 k, .string s, .int .i64 v]] w fun e W' => ROne w (0, k, s.data.toList, v) e W' := by
 have hsd := name_sound (v := v) hk (S := s.data.toList) (by rw [zc2]; omega)
 have TK := za3 (fun W => rTokens_any s (by omega) W)
 have hwy : (rwhy (lex s.data.toList).2 : Int) ≤ 12 := by
  cases h : (lex s.data.toList).2 with
  | none => simp [rwhy]
  | some x => obtain ⟨p, y⟩ := x; have := lex_why h; simp [rwhy]; omega
 unfold RTokens at TK
 revert TK hsd hwy
 generalize (lex s.data.toList).1 = ts
 generalize rwhy (lex s.data.toList).2 = y
 generalize rplace (lex s.data.toList).2 = pl
 intro hsd TK hwy
 obtain ⟨O, hO⟩ : ∃ O : Obj, O = .cells #[.int .i64 a, .int .i64 k, .string s, .int .i64 v] 142 := ⟨_, rfl⟩
 have y1 : (w.alloc O).cell? ⟨w.heap.size, 1, none⟩ = some (.int .i64 k) := by rw [hO, World.cell?_alloc_at _ _ _ _ (by rfl)]; rfl
 have y2 : (w.alloc O).cell? ⟨w.heap.size, 2, none⟩ = some (.string s) := by rw [hO, World.cell?_alloc_at _ _ _ _ (by rfl)]; rfl
 have y3 : (w.alloc O).cell? ⟨w.heap.size, 3, none⟩ = some (.int .i64 v) := by rw [hO, World.cell?_alloc_at _ _ _ _ (by rfl)]; rfl
 have HB0 : Below w.heap.size w (w.alloc O) := (Below.refl _ _).alloc (Nat.le_refl _) _
 have HSD := za3 hsd
 have HO := za3 hO
 have hk' : (k == 1) = true ∨ ((k == 1) = false ∧ (k == 2) = true) ∨ ((k == 1) = false ∧ (k == 2) = false ∧ (k == 3) = true) := by
  rcases hk with rfl | rfl | rfl <;> simp
 clear hsd hk hO
 rcases hk' with g1 | ⟨g1, g2⟩ | ⟨g1, g2, g3⟩
 all_goals
  go_enter Tryz.func93, Tryz.ntmps93
  go_wp2_with (go_at_call 133; refine (za0 TK _).mono ?_; clear TK; rintro e w1 ⟨hb1, tv, rfl, hown⟩)
  rw [← za0 HO] at hb1 hown
  have z1 := (hb1.cell (p := ⟨w.heap.size, 1, none⟩) (by simp)).trans y1
  have z2 := (hb1.cell (p := ⟨w.heap.size, 2, none⟩) (by simp)).trans y2
  have z3 := (hb1.cell (p := ⟨w.heap.size, 3, none⟩) (by simp)).trans y3
  have hB : Below w.heap.size w w1 := HB0.trans (hb1.mono (by simp))
  have hrow := TokRow.of_owns hown
  obtain ⟨p, c, rfl, hp⟩ := hrow
  clear y1 y2 y3 hb1 hown HO HB0
  by_cases qy : ((y : Int) == 0) = true
  ·by_cases qn : ((ts.length : Int) == 1) = true
   ·match ts, qn with
    | [t], _ =>
     obtain ⟨p0, k0, S0, v0⟩ := t
     obtain ⟨g, o, rfl, a0, a1, a2, a3⟩ := hp 0 _ rfl
     have hnn : (([((p0, k0, S0, v0) : Tok)].length : Nat) : Int) = 1 := rfl
     obtain ⟨F, hF⟩ : ∃ F : ByteArray, F = ⟨S0.toArray⟩ := ⟨_, rfl⟩
     have hSF : S0 = F.data.toList := by rw [hF]
     simp only at a1 a2
     rw [← hF] at a2
     have e := za0 HSD
     simp only [List.getD_cons_zero, hSF] at e
     clear hF hp a0 a3 HSD
     simp only [Nat.zero_mul, Nat.add_zero] at a1 a2
     by_cases qk : (k0 == k) = true
     ·by_cases qs : F = s
      ·have q4 : (F.toList == s.toList) = true := by rw [qs]; simp
       have e2 : Hid (sound (0, k, s.data.toList, v) = (v == 0)) := by
        show _ = _
        rw [e, qy, qk, qs]; simp
       have hkk : k = 1 ∨ k = 2 ∨ k = 3 := by
        first
        | exact .inl (by simpa using g1)
        | exact .inr (.inl (by simpa using g2))
        | exact .inr (.inr (by simpa using g3))
       have HX : Hid (s = ⟨(za5 (0, k, s.data.toList, v)).toArray⟩) := by
        show _ = _
        rw [zay (by simp only; omega) (by simp only; omega)]
       clear e hSF qs hkk
       by_cases qv : (v == 0) = true
       ·go_quiet (fail)
        go_wp2
        go_ret2
        exact ROne.yes (by rw [za0 e2, qv]) (za0 HX) (below_drewN hB _)
       ·have qv := (Bool.not_eq_true _).mp qv
        go_quiet (fail)
        go_wp2
        go_ret2
        exact ROne.no (by rw [za0 e2, qv]) (below_drewN hB _)
      ·have q4 : (F.toList == s.toList) = false := by
        rw [beq_eq_false_iff_ne, toList_data, toList_data]
        exact fun h => qs (data_inj h)
       have e2 : Hid (sound (0, k, s.data.toList, v) = false) := by
        show _ = _
        rw [e, show (F.data.toList == s.data.toList) = false from by rw [beq_eq_false_iff_ne]; exact fun h => qs (data_inj h)]; simp
       clear e hSF qs
       go_quiet (fail)
       go_wp2
       go_ret2
       exact ROne.no (za0 e2) (below_drewN hB _)
     ·have qk := (Bool.not_eq_true _).mp qk
      have e2 : Hid (sound (0, k, s.data.toList, v) = false) := by
       show _ = _
       rw [e, qk]; simp
      clear e hSF
      go_quiet (fail)
      go_wp2
      go_ret2
      exact ROne.no (za0 e2) (below_drewN hB _)
   ·have qn := (Bool.not_eq_true _).mp qn
    have e2 : Hid (sound (0, k, s.data.toList, v) = false) := by
     show _ = _
     rw [za0 HSD, qn]; simp
    clear HSD hp
    go_quiet (fail)
    go_wp2
    go_ret2
    exact ROne.no (za0 e2) (below_drewN hB _)
  ·have qy := (Bool.not_eq_true _).mp qy
   have e2 : Hid (sound (0, k, s.data.toList, v) = false) := by
    show _ = _
    rw [za0 HSD, qy]; simp
   clear HSD hp
   go_quiet (fail)
   go_wp2
   go_ret2
   exact ROne.no (za0 e2) (below_drewN hB _)
theorem rOne_any (a k v : Int) (s : ByteArray) (w : World) (hs : s.size ≤ 60000) (v1 : v ≤ 9223372036854775807) :
  Calls Tryz.prog 93 #[.agg #[.int .i64 a, .int .i64 k, .string s, .int .i64 v]] w fun e W' => ROne w (0, k, s.data.toList, v) e W' := by
 by_cases h1 : k = 1 ∨ k = 2 ∨ k = 3
 ·exact rOne_name a k v s w hs h1
 ·by_cases h4 : k = 4
  ·subst h4; exact rOne_num a v s w (by omega) v1
  ·by_cases h5 : k = 5
   ·subst h5; exact rOne_text a v s w (by omega)
   ·by_cases h6 : k = 6
    ·subst h6; exact rOne_sign a v s w
    ·exact rOne_else a k v s w (by omega)
end Go.Proofs.YtmpbbmfbgcpplaaGreatDoor
