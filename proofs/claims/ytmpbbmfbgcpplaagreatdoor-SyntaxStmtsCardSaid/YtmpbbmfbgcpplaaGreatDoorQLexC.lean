import Derived.Test.YtmpbbmfbgcpplaaGreatDoorQLexB
import Derived.Shelf.Strings.BuilderK
import Derived.Lib.ItoaLen
import Derived.Lib.AppendIntMem
import Derived.WalkSmall
set_option maxHeartbeats 2000000
set_option maxRecDepth 100000
namespace Go.Proofs.YtmpbbmfbgcpplaaGreatDoor
namespace Lx
def sayB (c : UInt8) : Bool := c == 10 || zcn (c.toNat : Int)
def zb3 (l : Bs) : Bool := l.all sayB
def zb1 (k : Int) (l : Bs) : Bool :=
 match l with
 | [] => false
 | _ => zbh (hd l) && (match cut l with
  | .inl _ => false
  | .inr (k', _, _, n) => n == l.length && k' == k)
def sound (t : Tok) : Bool :=
 if t.2.1 = 1 ∨ t.2.1 = 2 ∨ t.2.1 = 3 ∨ t.2.1 = 6 then t.2.2.2 == 0 && zb1 t.2.1 t.2.2.1
 else if t.2.1 = 4 then t.2.2.1.isEmpty && decide (0 ≤ t.2.2.2)
 else if t.2.1 = 5 then t.2.2.2 == 0 && zb3 t.2.2.1 else false
theorem zcl (c : UInt8) (r : Bs) : zb3 (c :: r) = (sayB c && zb3 r) := by simp [zb3]
end Lx
open Go Go.RowKit Lx
theorem sayable_any (s : ByteArray) (w : World) (hs : s.size ≤ maxLen) : Calls Tryz.prog 152 #[.string s] w fun e w' => e = .returned (.bool (zb3 s.data.toList)) ∧ w = w' := by
 unfold maxLen at hs
 go_enter Tryz.func152, Tryz.ntmps152
 go_wp2
 go_loop [6] (fun i => ∃ k : Nat, k ≤ s.size ∧ i = .int .i64 k ∧ Hid (zb3 s.data.toList = zb3 (s.data.toList.drop k))) (fun i => s.size - (intOf i).toNat)
 case atStart => exact ⟨0, by omega, rfl, rfl⟩
 case round =>
  obtain ⟨k, hk, rfl, HK⟩ := hrel
  by_cases hlt : k < s.size
  ·have hd := drop_cons s k hlt
   by_cases h10 : (s[k].toNat : Int) = 10
   ·have HN : Hid (zb3 s.data.toList = zb3 (s.data.toList.drop (k + 1))) := by
     have e := za0 HK
     rw [hd, zcl, zcp (by decide) h10] at e
     show _ = _
     simpa [sayB] using e
    have hq : ((s[k].toNat : Int) != 10) = false := by simp [h10]
    clear h10 hd
    go_wp2
    go_round
    case rel => exact ⟨k + 1, by omega, by go_num, HN⟩
    case measure => simp [intOf]; omega
   ·have hq : ((s[k].toNat : Int) != 10) = true := by simpa using h10
    have hn : (s[k] == 10) = false := by
     rw [beq_eq_false_iff_ne]; intro h; exact h10 (by rw [h]; rfl)
    by_cases hp : zcn (s[k].toNat : Int) = true
    ·have HN : Hid (zb3 s.data.toList = zb3 (s.data.toList.drop (k + 1))) := by
      have e := za0 HK
      rw [hd, zcl, sayB, hp] at e
      show _ = _
      simpa using e
     clear h10 hd hn
     go_wp2_with (go_at_call 163; refine (zh7 _ _).mono ?_; rintro e w' ⟨rfl, rfl⟩)
     go_round
     case rel => exact ⟨k + 1, by omega, by go_num, HN⟩
     case measure => simp [intOf]; omega
    ·have hp : zcn (s[k].toNat : Int) = false := (Bool.not_eq_true _).mp hp
     have HN : Hid (zb3 s.data.toList = false) := by
      have e := za0 HK
      rw [hd, zcl, sayB, hp, hn] at e
      show _ = _
      simpa using e
     clear h10 hd hn
     go_wp2_with (go_at_call 163; refine (zh7 _ _).mono ?_; rintro e w' ⟨rfl, rfl⟩)
     go_ret
     exact ⟨by rw [za0 HN]; rfl, rfl⟩
  ·have HN : Hid (zb3 s.data.toList = true) := by
    have e := za0 HK
    rw [List.drop_of_length_le (by simp; omega)] at e
    exact e
   go_wp2
   go_ret
   exact ⟨by rw [za0 HN]; rfl, rfl⟩
theorem zc2 (s : ByteArray) : s.data.toList.length = s.size := by simp
theorem toList_data (s : ByteArray) : s.toList = s.data.toList := by
 have h := Lib.extract_toList s 0 s.size
 have e : s.extract 0 s.size = s := by
  apply ByteArray.ext; apply Array.ext'
  simp
 rw [e, List.drop_zero, List.take_of_length_le (by rw [zc2]; omega)] at h
 exact h
theorem nil_of {s : ByteArray} (h : s.size = 0) : s.data.toList = [] := List.eq_nil_of_length_eq_zero ((zc2 s).trans h)
theorem ne_nil_of {s : ByteArray} (h : ¬ s.size = 0) : s.data.toList ≠ [] := fun e => h (by rw [← zc2, e]; rfl)
theorem empty_of {s : ByteArray} (h : s.size = 0) : s.toList.isEmpty = true := by
 rw [toList_data, nil_of h]; rfl
theorem zj8 {s : ByteArray} (h : ¬ s.size = 0) : s.toList.isEmpty = false := by
 rw [toList_data]
 cases hd : s.data.toList with
 | nil => exact absurd hd (ne_nil_of h)
 | cons c r => rfl
theorem cutsItself_any (a k v : Int) (s : ByteArray) (w : World) (hs : s.size ≤ 140737488355328) :
  Calls Tryz.prog 151 #[.agg #[.int .i64 a, .int .i64 k, .string s, .int .i64 v]] w fun e w' => e = .returned (.bool (zb1 k s.data.toList)) ∧ Below w.heap.size w w' := by
 by_cases h0 : s.size = 0
 ·have he : s.toList.isEmpty = true := empty_of h0
  have HF : Hid (zb1 k s.data.toList = false) := by
   show _ = _
   rw [nil_of h0]; rfl
  go_enter Tryz.func151, Tryz.ntmps151
  go_wp2
  go_ret
  exact ⟨by rw [za0 HF]; rfl, (Below.refl _ _).alloc (Nat.le_refl _) _⟩
 ·have he : s.toList.isEmpty = false := zj8 h0
  have hp : 0 < s.size := by omega
  obtain ⟨hx0, hx1⟩ := byte_bd (s[0]'hp)
  have hh := hd_at s 0 hp
  rw [List.drop_zero] at hh
  obtain ⟨c, r, hcr⟩ := List.exists_cons_of_ne_nil (ne_nil_of h0)
  by_cases hb : zbh ((s[0]'hp).toNat : Int) = true
  ·have CT := fun W => cut_any s 0 W hp hs
   rw [List.drop_zero] at CT
   rcases hc : cut s.data.toList with ⟨o, y⟩ | ⟨k', S, u, n⟩
   ·rw [hc] at CT
    have CT := za3 CT
    have HF : Hid (zb1 k s.data.toList = false) := by show _ = _; unfold zb1; rw [hcr] at hc hh ⊢; simp [hc]
    clear hc hcr hh
    go_enter Tryz.func151, Tryz.ntmps151
    go_wp2_with (first | (go_at_call 161; refine (zf5 _ _ hx0 hx1).mono ?_; rintro e w' ⟨rfl, rfl⟩) | (go_at_call 162; refine (za0 CT _).mono ?_; rintro e w1 ⟨hbw, b, rfl, hge, hblk⟩; obtain ⟨hc', hf'⟩ := zd4 hbw; have hz := hbw.size))
    go_ret
    exact ⟨by rw [za0 HF]; rfl, ((((Below.refl _ _).alloc (Nat.le_refl _) _).trans (hbw.mono (by simp))).alloc (by simp at hz; omega) _)⟩
   ·rw [hc] at CT
    simp only [zca] at CT
    have HF : Hid (zb1 k s.data.toList = (((n : Int) == (s.size : Int)) && (k' == k))) := by
     have hsz : s.data.toList.length = s.size := by simp
     show _ = _
     rw [← hsz]; unfold zb1; rw [hcr] at hc hh ⊢
     simp only [hc, hh, hb, Bool.true_and]
     congr 1
     rw [Bool.eq_iff_iff]; simp; omega
    clear hc hcr hh
    have hnz : ((0 + n : Nat) : Int) = (n : Int) := by omega
    simp only [hnz] at CT
    clear hnz
    have CT := za3 CT
    by_cases hn : ((n : Int) == (s.size : Int)) = true
    ·by_cases hk : (k' == k) = true
     ·rw [hn, hk] at HF
      go_enter Tryz.func151, Tryz.ntmps151
      go_wp2_with (first | (go_at_call 161; refine (zf5 _ _ hx0 hx1).mono ?_; rintro e w' ⟨rfl, rfl⟩) | (go_at_call 162; refine (za0 CT _).mono ?_; rintro e w1 ⟨hbw, rfl⟩; obtain ⟨hc', hf'⟩ := zd4 hbw; have hz := hbw.size; have hz' : w.heap.size < w1.heap.size := by simp at hz; omega))
      go_ret
      exact ⟨by rw [za0 HF]; rfl, ((((Below.refl _ _).alloc (Nat.le_refl _) _).trans (hbw.mono (by simp))).alloc (by simp at hz; omega) _)⟩
     ·have hk : (k' == k) = false := (Bool.not_eq_true _).mp hk
      rw [hn, hk] at HF
      go_enter Tryz.func151, Tryz.ntmps151
      go_wp2_with (first | (go_at_call 161; refine (zf5 _ _ hx0 hx1).mono ?_; rintro e w' ⟨rfl, rfl⟩) | (go_at_call 162; refine (za0 CT _).mono ?_; rintro e w1 ⟨hbw, rfl⟩; obtain ⟨hc', hf'⟩ := zd4 hbw; have hz := hbw.size; have hz' : w.heap.size < w1.heap.size := by simp at hz; omega))
      go_ret
      exact ⟨by rw [za0 HF]; rfl, ((((Below.refl _ _).alloc (Nat.le_refl _) _).trans (hbw.mono (by simp))).alloc (by simp at hz; omega) _)⟩
    ·have hn : ((n : Int) == (s.size : Int)) = false := (Bool.not_eq_true _).mp hn
     rw [hn] at HF
     go_enter Tryz.func151, Tryz.ntmps151
     go_wp2_with (first | (go_at_call 161; refine (zf5 _ _ hx0 hx1).mono ?_; rintro e w' ⟨rfl, rfl⟩) | (go_at_call 162; refine (za0 CT _).mono ?_; rintro e w1 ⟨hbw, rfl⟩; obtain ⟨hc', hf'⟩ := zd4 hbw; have hz := hbw.size; have hz' : w.heap.size < w1.heap.size := by simp at hz; omega))
     go_ret
     exact ⟨by rw [za0 HF]; rfl, ((((Below.refl _ _).alloc (Nat.le_refl _) _).trans (hbw.mono (by simp))).alloc (by simp at hz; omega) _)⟩
  ·have hb : zbh ((s[0]'hp).toNat : Int) = false := (Bool.not_eq_true _).mp hb
   have HF : Hid (zb1 k s.data.toList = false) := by show _ = _; unfold zb1; rw [hcr] at hh ⊢; simp [hh, hb]
   clear hcr hh
   go_enter Tryz.func151, Tryz.ntmps151
   go_wp2_with (first | (go_at_call 161; refine (zf5 _ _ hx0 hx1).mono ?_; rintro e w' ⟨rfl, rfl⟩))
   go_ret
   exact ⟨by rw [za0 HF]; rfl, (Below.refl _ _).alloc (Nat.le_refl _) _⟩
theorem cutsItself_w (a k v : Int) (s : ByteArray) (w : World) (hs : s.size ≤ 140737488355328) (b : Bool) (hb : zb1 k s.data.toList = b) :
  Calls Tryz.prog 151 #[.agg #[.int .i64 a, .int .i64 k, .string s, .int .i64 v]] w fun e w' => e = .returned (.bool b) ∧ Below w.heap.size w w' := by
 subst hb; exact cutsItself_any a k v s w hs
theorem sayable_w (s : ByteArray) (w : World) (hs : s.size ≤ 140737488355328) (b : Bool) (hb : zb3 s.data.toList = b) : Calls Tryz.prog 152 #[.string s] w fun e w' => e = .returned (.bool b) ∧ w = w' := by
 subst hb; exact sayable_any s w (by unfold maxLen; omega)
theorem zd6 {a b : Bool} (h : a = b) : Ending.returned (.bool a) = .returned (.bool b) := by rw [h]
theorem sound_any (a k v : Int) (s : ByteArray) (w : World) (hs : s.size ≤ 140737488355328) (b : Bool) (hb : sound (0, k, s.data.toList, v) = b) :
  Calls Tryz.prog 127 #[.agg #[.int .i64 a, .int .i64 k, .string s, .int .i64 v]] w fun e w' => e = .returned (.bool b) ∧ Below w.heap.size w w' := by
 by_cases h1 : k = 1 ∨ k = 2 ∨ k = 3 ∨ k = 6
 ·have hv : (v == 0 && zb1 k s.data.toList) = b := by rw [← hb]; simp only [sound]; rw [if_pos h1]
  clear hb
  by_cases hz : (v == 0) = true
  ·have CI : Hid (∀ W, _) := fun W => cutsItself_w a k v s W hs b (by rw [← hv, hz]; rfl)
   clear hv
   rcases h1 with rfl | rfl | rfl | rfl
   all_goals
    go_enter Tryz.func127, Tryz.ntmps127
    go_wp2_with (go_at_call 151; refine (za0 CI _).mono ?_; rintro e w1 ⟨rfl, hb1⟩)
    go_ret
    exact ⟨rfl, ((Below.refl _ _).alloc (Nat.le_refl _) _).trans (hb1.mono (by simp))⟩
  ·have hz : (v == 0) = false := (Bool.not_eq_true _).mp hz
   rw [hz] at hv
   have HV := za3 hv
   clear hv
   rcases h1 with rfl | rfl | rfl | rfl
   all_goals
    go_enter Tryz.func127, Tryz.ntmps127
    go_wp2
    go_ret
    exact ⟨zd6 (za0 HV), (Below.refl _ _).alloc (Nat.le_refl _) _⟩
 ·by_cases h4 : k = 4
  ·subst h4
   have hv : (s.data.toList.isEmpty && decide (0 ≤ v)) = b := by rw [← hb]; simp [sound]
   clear hb h1
   by_cases h0 : s.size = 0
   ·have he := empty_of h0
    rw [nil_of h0] at hv
    have HV : Hid (decide (0 ≤ v) = b) := by simpa [Hid] using hv
    clear hv h0
    go_enter Tryz.func127, Tryz.ntmps127
    go_wp2
    go_ret
    exact ⟨zd6 (za0 HV), (Below.refl _ _).alloc (Nat.le_refl _) _⟩
   ·have he := zj8 h0
    have HV : Hid (false = b) := by rw [← toList_data, he] at hv; exact hv
    clear hv h0
    go_enter Tryz.func127, Tryz.ntmps127
    go_wp2
    go_ret
    exact ⟨zd6 (za0 HV), (Below.refl _ _).alloc (Nat.le_refl _) _⟩
  ·by_cases h5 : k = 5
   ·subst h5
    have hv : (v == 0 && zb3 s.data.toList) = b := by rw [← hb]; simp [sound]
    clear hb h1 h4
    by_cases hz : (v == 0) = true
    ·have SA : Hid (∀ W, _) := fun W => sayable_w s W hs b (by rw [← hv, hz]; rfl)
     clear hv
     go_enter Tryz.func127, Tryz.ntmps127
     go_wp2_with (go_at_call 152; refine (za0 SA _).mono ?_; rintro e w1 ⟨rfl, rfl⟩)
     go_ret
     exact ⟨rfl, (Below.refl _ _).alloc (Nat.le_refl _) _⟩
    ·have hz : (v == 0) = false := (Bool.not_eq_true _).mp hz
     rw [hz] at hv
     have HV := za3 hv
     clear hv
     go_enter Tryz.func127, Tryz.ntmps127
     go_wp2
     go_ret
     exact ⟨zd6 (za0 HV), (Below.refl _ _).alloc (Nat.le_refl _) _⟩
   ·have HV : Hid (false = b) := by
     show _ = _
     rw [← hb]; simp only [sound]; rw [if_neg h1, if_neg h4, if_neg h5]
    have e1 : (k == 1) = false := by rw [beq_eq_false_iff_ne]; omega
    have e2 : (k == 2) = false := by rw [beq_eq_false_iff_ne]; omega
    have e3 : (k == 3) = false := by rw [beq_eq_false_iff_ne]; omega
    have e4 : (k == 4) = false := by rw [beq_eq_false_iff_ne]; omega
    have e5 : (k == 5) = false := by rw [beq_eq_false_iff_ne]; omega
    have e6 : (k == 6) = false := by rw [beq_eq_false_iff_ne]; omega
    clear hb h1 h4 h5
    go_enter Tryz.func127, Tryz.ntmps127
    go_wp2
    go_ret
    exact ⟨zd6 (za0 HV), (Below.refl _ _).alloc (Nat.le_refl _) _⟩
open Go Go.RowKit Go.Shelf Go.Proofs
abbrev IsF (B b : Nat) (bs : List Value) (w : World) : Prop := Lib.IsBuilderF 167 5 B b bs w
abbrev Others (b : Nat) (w w' : World) : Prop := Lib.OthersKept 5 (some b) w w'
theorem zkf (B b : Nat) (bs : List Value) (c : Int) (w : World) (h : IsF B b bs w) (hlen : bs.length + 1 ≤ 140737488355328) (hBw : B ≤ w.heap.size) :
  Calls Tryz.prog 128 #[.pointer (some ⟨b, 0, none⟩), .int .u8 c] w fun e w' => e = .returned .nilIface ∧ IsF B b (bs ++ [.int .u8 c]) w' ∧ Below B w w' ∧ Others b w w' :=
 (Any.Builder_WriteByte_k lays167 extra B b bs c w h hlen hBw).mono fun _ _ h => ⟨h.1, .inr h.2.1, h.2.2⟩
theorem WriteString_k (B b : Nat) (bs : List Value) (s : ByteArray) (w : World) (h : IsF B b bs w) (hlen : bs.length + s.size ≤ 140737488355328) (hBw : B ≤ w.heap.size) :
  Calls Tryz.prog 154 #[.pointer (some ⟨b, 0, none⟩), .string s] w fun e w' => e = .returned (.tuple #[.int .i64 s.size, .nilIface]) ∧ IsF B b (bs ++ Lib.strCells s) w' ∧ Below B w w' ∧ Others b w w' :=
 (Any.Builder_WriteString_k lays166 extra B b bs s w h hlen hBw).mono fun _ _ h => ⟨h.1, .inr h.2.1, h.2.2⟩
namespace Lx
def zka (c : UInt8) : Bs := if c = 10 then [92, 110] else if c = 34 then [92, 34] else if c = 92 then [92, 92] else [c]
def zgw (l : Bs) : Bs := l.flatMap zka
def quote (l : Bs) : Bs := 34 :: (zgw l ++ [34])
theorem zct (c : UInt8) (r : Bs) : zgw (c :: r) = zka c ++ zgw r := by simp [zgw]
theorem esc1_len (c : UInt8) : (zka c).length ≤ 2 := by
 unfold zka; repeat' split
 all_goals simp
end Lx
theorem byteCells_append (a b : Bs) : Lib.byteCells (a ++ b) = Lib.byteCells a ++ Lib.byteCells b := by simp [Lib.byteCells]
abbrev zlf (B b : Nat) (l : Bs) (w : World) : Prop := IsF B b (Lib.byteCells l) w
theorem WByte (B b : Nat) (l : Bs) (c : UInt8) (x : Int) (hx : x = (c.toNat : Int)) (w : World) (h : zlf B b l w) (hlen : l.length + 1 ≤ 140737488355328) (hBw : B ≤ w.heap.size) :
  Calls Tryz.prog 128 #[.pointer (some ⟨b, 0, none⟩), .int .u8 x] w fun e w' => e = .returned .nilIface ∧ zlf B b (l ++ [c]) w' ∧ Below B w w' := by
 subst hx
 refine (zkf B b _ _ w h (by rw [Lib.byteCells_length]; exact hlen) hBw).mono ?_
 rintro e w' ⟨h1, h2, h3, _⟩
 exact ⟨h1, by rw [zlf, zd2]; exact h2, h3⟩
theorem WString (B b : Nat) (l : Bs) (s : ByteArray) (w : World) (h : zlf B b l w) (hlen : l.length + s.size ≤ 140737488355328) (hBw : B ≤ w.heap.size) :
  Calls Tryz.prog 154 #[.pointer (some ⟨b, 0, none⟩), .string s] w fun e w' => e = .returned (.tuple #[.int .i64 s.size, .nilIface]) ∧ zlf B b (l ++ s.data.toList) w' ∧ Below B w w' := by
 refine (WriteString_k B b _ _ w h (by rw [Lib.byteCells_length]; exact hlen) hBw).mono ?_
 rintro e w' ⟨h1, h2, h3, _⟩
 have e2 : Lib.strCells s = Lib.byteCells s.data.toList := by
  simp [Lib.strCells, Lib.byteCells]
 exact ⟨h1, by rw [zlf, byteCells_append, ← e2]; exact h2, h3⟩
theorem writeText_any (B b : Nat) (l : Bs) (s : ByteArray) (w : World) (h : zlf B b l w) (hlen : l.length + 2 * s.size + 2 ≤ 140737488355328) (hBw : B ≤ w.heap.size) :
  Calls Tryz.prog 156 #[.pointer (some ⟨b, 0, none⟩), .string s] w fun e w' => e = .returned (.tuple #[]) ∧ zlf B b (l ++ quote s.data.toList) w' ∧ Below B w w' := by
 go_enter Tryz.func156, Tryz.ntmps156
 go_wp2_with (go_at_call 128; refine (WByte B b l 34 34 rfl _ h (by omega) hBw).mono ?_; rintro e w1 ⟨rfl, h1, hb1⟩)
 go_loopw [9] (fun i wr => ∃ (k : Nat) (m : Bs), k ≤ s.size ∧ i = .int .i64 k ∧ m.length ≤ l.length + 1 + 2 * k ∧ zlf B b m wr ∧ Below B w wr ∧ Hid (l ++ [34] ++ zgw s.data.toList = m ++ zgw (s.data.toList.drop k))) (fun i _ => s.size - (intOf i).toNat)
 case atStart => exact ⟨0, l ++ [34], by omega, rfl, by simp, h1, hb1, rfl⟩
 case round =>
  obtain ⟨k, m, hk, rfl, hml, hm, hbm, HE⟩ := hrel
  have hBr : B ≤ wr.heap.size := Nat.le_trans hBw hbm.size
  by_cases hlt : k < s.size
  ·have HS := za3 (drop_cons s k hlt)
   by_cases h10 : (s[k].toNat : Int) = 10
   ·have q : ((s[k].toNat : Int) == 10) = true := by simp [h10]
    have HC : Hid (zka s[k] = [92, 110]) := by rw [zcp (n := 10) (by decide) h10]; exact rfl
    clear h10
    go_wp2_with (go_at_call 154; refine (WString B b m ⟨#[92, 110]⟩ _ hm (by show m.length + 2 ≤ _; omega) hBr).mono ?_; rintro e w3 ⟨rfl, h3, hb3⟩)
    go_roundw
    case rel => exact ⟨k + 1, m ++ [92, 110], by omega, by go_num, by simp; omega, h3, hbm.trans hb3, by have e := za0 HE; rw [za0 HS, zct, za0 HC] at e; show _ = _; rw [e]; simp⟩
    case measure => simp [intOf]; omega
   ·have q : ((s[k].toNat : Int) == 10) = false := by simpa using h10
    have n10 : s[k] ≠ 10 := fun h => h10 (by rw [h]; rfl)
    by_cases h34 : (s[k].toNat : Int) = 34
    ·have q2 : ((s[k].toNat : Int) == 34) = true := by simp [h34]
     have hs34 : s[k] = 34 := zcp (n := 34) (by decide) h34
     have HC : Hid (zka s[k] = [92, s[k]]) := by rw [hs34]; exact rfl
     clear h10 h34 hs34 n10
     go_wp2_with (first | (go_at_call 128; refine (WByte B b m 92 92 rfl _ hm (by omega) hBr).mono ?_; clear hm; rintro e w2 ⟨rfl, h2, hb2⟩) | (go_at_call 128; refine (WByte B b (m ++ [92]) s[k] _ rfl _ h2 (by simp; omega) (Nat.le_trans hBr hb2.size)).mono ?_; rintro e w3 ⟨rfl, h3, hb3'⟩; have hb3 := hb2.trans hb3'))
     go_roundw
     case rel => exact ⟨k + 1, m ++ [92] ++ [s[k]], by omega, by go_num, by simp; omega, h3, hbm.trans hb3, by have e := za0 HE; rw [za0 HS, zct, za0 HC] at e; show _ = _; rw [e]; simp⟩
     case measure => simp [intOf]; omega
    ·have q2 : ((s[k].toNat : Int) == 34) = false := by simpa using h34
     have n34 : s[k] ≠ 34 := fun h => h34 (by rw [h]; rfl)
     by_cases h92 : (s[k].toNat : Int) = 92
     ·have q3 : ((s[k].toNat : Int) == 92) = true := by simp [h92]
      have hs92 : s[k] = 92 := zcp (n := 92) (by decide) h92
      have HC : Hid (zka s[k] = [92, s[k]]) := by rw [hs92]; exact rfl
      clear h10 h34 h92 hs92 n10 n34
      go_wp2_with (first | (go_at_call 128; refine (WByte B b m 92 92 rfl _ hm (by omega) hBr).mono ?_; clear hm; rintro e w2 ⟨rfl, h2, hb2⟩) | (go_at_call 128; refine (WByte B b (m ++ [92]) s[k] _ rfl _ h2 (by simp; omega) (Nat.le_trans hBr hb2.size)).mono ?_; rintro e w3 ⟨rfl, h3, hb3'⟩; have hb3 := hb2.trans hb3'))
      go_roundw
      case rel => exact ⟨k + 1, m ++ [92] ++ [s[k]], by omega, by go_num, by simp; omega, h3, hbm.trans hb3, by have e := za0 HE; rw [za0 HS, zct, za0 HC] at e; show _ = _; rw [e]; simp⟩
      case measure => simp [intOf]; omega
     ·have q3 : ((s[k].toNat : Int) == 92) = false := by simpa using h92
      have n92 : s[k] ≠ 92 := fun h => h92 (by rw [h]; rfl)
      have HC : Hid (zka s[k] = [s[k]]) := by show _ = _; rw [zka, if_neg n10, if_neg n34, if_neg n92]
      clear h10 h34 h92 n10 n34 n92
      go_wp2_with (go_at_call 128; refine (WByte B b m s[k] _ rfl _ hm (by omega) hBr).mono ?_; rintro e w3 ⟨rfl, h3, hb3⟩)
      go_roundw
      case rel => exact ⟨k + 1, m ++ [s[k]], by omega, by go_num, by simp; omega, h3, hbm.trans hb3, by have e := za0 HE; rw [za0 HS, zct, za0 HC] at e; show _ = _; rw [e]; simp⟩
      case measure => simp [intOf]; omega
  ·have HQ : Hid (l ++ quote s.data.toList = m ++ [34]) := by
    have e := za0 HE
    rw [List.drop_of_length_le (by rw [zc2]; omega)] at e
    show _ = _
    rw [quote]; simp [zgw] at e ⊢; simp [← e]
   go_wp2_with (go_at_call 128; refine (WByte B b m 34 34 rfl _ hm (by omega) hBr).mono ?_; rintro e w3 ⟨rfl, h3, hb3⟩)
   go_end0
   exact ⟨rfl, by rw [za0 HQ]; exact h3, hbm.trans hb3⟩
namespace Lx
def za5 (t : Tok) : Bs := if t.2.1 = 4 then Lib.itoa t.2.2.2 else if t.2.1 = 5 then quote t.2.2.1 else t.2.2.1
end Lx
abbrev Tab (w : World) : Prop := Lib.TabIs Tryz.prog w "internal/strconv.uint64pow10" .u64 Lib.pow10Tab
theorem tab_global : Tryz.prog.globalNamed "internal/strconv.uint64pow10" = some 0 := by kernel_rfl
theorem Tab.below {B : Nat} {w w' : World} (h : Tab w) (hb : Below B w w') (hB : 4 ≤ B) : Tab w' := var?_below hb tab_global (by omega) h
theorem Itoa_any (n : Int) (h0 : -9223372036854775808 ≤ n) (h1 : n ≤ 9223372036854775807) (w : World) (ht : Tab w) :
  Calls Tryz.prog 155 #[.int .i64 n] w fun e w' => e = .returned (.string ⟨(Lib.itoa n).toArray⟩) ∧ Below w.heap.size w w' := by
 refine (Tryz.strconv_Itoa n h0 h1 w ht).mono ?_
 rintro e w' ⟨rfl, k, os, rfl⟩
 exact ⟨rfl, Lib.below_grow _ w (Nat.le_refl _) k os⟩
theorem zf6 {B b : Nat} {bs : List Value} {w w' : World} (h : IsF B b bs w) (hb : Below w.heap.size w w') : IsF B b bs w' := by
 have at_ : ∀ p, Lib.BuilderAtF 167 5 B b p bs w → Lib.BuilderAtF 167 5 B b p bs w' := by
  rintro p ⟨hB, v, hbk, hown, hne⟩
  refine ⟨hB, v, (hb.block b (Array.getElem?_eq_some_iff.1 hbk).1).trans hbk, hown.kept (zaa hb) ?_, hne⟩
  cases ho : v.ownBlock with
  | none => exact .inl rfl
  | some g => exact .inr (by simp)
 rcases h with h | h
 ·exact .inl (at_ _ h)
 ·exact .inr (at_ _ h)
theorem zh0 (B b : Nat) (l : Bs) (a k v : Int) (s : ByteArray) (w : World) (h : zlf B b l w) (ht : Tab w) (hlen : l.length + 2 * s.size + 21 ≤ 140737488355328) (hB5 : 4 ≤ B) (hBw : B ≤ w.heap.size) (v0 : -9223372036854775808 ≤ v) (v1 : v ≤ 9223372036854775807) :
  Calls Tryz.prog 130 #[.pointer (some ⟨b, 0, none⟩), .agg #[.int .i64 a, .int .i64 k, .string s, .int .i64 v]] w fun e w' => e = .returned (.tuple #[]) ∧ zlf B b (l ++ za5 (0, k, s.data.toList, v)) w' ∧ Below B w w' := by
 have hba : Below w.heap.size w (w.alloc (.cells #[.int .i64 a, .int .i64 k, .string s, .int .i64 v] 142)) := (Below.refl _ _).alloc (Nat.le_refl _) _
 have h1 : zlf B b l (w.alloc (.cells #[.int .i64 a, .int .i64 k, .string s, .int .i64 v] 142)) := zf6 h hba
 have ht1 := ht.below hba (by omega)
 have hsz : B ≤ (w.alloc (.cells #[.int .i64 a, .int .i64 k, .string s, .int .i64 v] 142)).heap.size := by simp; omega
 have hbB := hba.mono hBw
 by_cases h4 : k = 4
 ·have HT : Hid (za5 (0, k, s.data.toList, v) = Lib.itoa v) := by show _ = _; simp [za5, h4]
  have hil := Lib.itoa_length_le v v0 v1
  have e4 : (k == 4) = true := by simp [h4]
  have IT := za3 (Itoa_any v v0 v1 _ ht1)
  have hz : ByteArray.size ⟨(Lib.itoa v).toArray⟩ ≤ 21 := by show (Lib.itoa v).toArray.size ≤ 21; simpa using hil
  have WS := za3 (fun W hW hX => WString B b l ⟨(Lib.itoa v).toArray⟩ W hW (by omega) hX)
  clear hz hil
  clear h4 ht ht1 h hba
  go_enter Tryz.func130, Tryz.ntmps130
  go_wp2_with (first | (go_at_call 155; refine (za0 IT).mono ?_; rintro e w2 ⟨rfl, hb2⟩) | (go_at_call 154; refine (za0 WS _ (zf6 h1 hb2) (Nat.le_trans hsz hb2.size)).mono ?_; rintro e w3 ⟨rfl, h3, hb3⟩))
  go_end0
  exact ⟨rfl, by rw [za0 HT]; simpa using h3, (hbB.trans (hb2.mono hsz)).trans hb3⟩
 ·have e4 : (k == 4) = false := by rw [beq_eq_false_iff_ne]; exact h4
  by_cases h5 : k = 5
  ·have HT : Hid (za5 (0, k, s.data.toList, v) = quote s.data.toList) := by show _ = _; simp [za5, h5]
   have e5 : (k == 5) = true := by simp [h5]
   clear h4 h5 ht ht1 h hba
   go_enter Tryz.func130, Tryz.ntmps130
   go_wp2_with (go_at_call 156; refine (writeText_any B b l s _ h1 (by omega) hsz).mono ?_; rintro e w3 ⟨rfl, h3, hb3⟩)
   go_end0
   exact ⟨rfl, by rw [za0 HT]; exact h3, hbB.trans hb3⟩
  ·have e5 : (k == 5) = false := by rw [beq_eq_false_iff_ne]; exact h5
   have HT : Hid (za5 (0, k, s.data.toList, v) = s.data.toList) := by show _ = _; simp [za5, h4, h5]
   clear h4 h5 ht ht1 h hba
   go_enter Tryz.func130, Tryz.ntmps130
   go_wp2_with (go_at_call 154; refine (WString B b l s _ h1 (by omega) hsz).mono ?_; rintro e w3 ⟨rfl, h3, hb3⟩)
   go_end0
   exact ⟨rfl, by rw [za0 HT]; exact h3, hbB.trans hb3⟩
namespace Lx
def zev : List Tok → Nat → Bs → Option Bs
 | [], _, acc => some acc
 | t :: r, i, acc =>
  if 65536 < (acc ++ (if 0 < i then [32] else [])).length + t.2.2.1.length then none
  else if 65536 < ((acc ++ (if 0 < i then [32] else [])) ++ za5 t).length then none
  else zev r (i + 1) ((acc ++ (if 0 < i then [32] else [])) ++ za5 t)
def join (ts : List Tok) : Sum Nat Bs :=
 if ts.all sound = false then .inl 1 else
 match zev ts 0 [] with
 | none => .inl 2
 | some l => if 4096 < ts.length then .inl 3 else .inr l
theorem zjy (a : Nat) (t : Int × Bs × Int) : sound (a, t) = sound (0, t) := rfl
end Lx
def zbk : Sum Nat Bs → Value
 | .inl y => .tuple #[.string ⟨#[]⟩, .int .i64 (y : Int)]
 | .inr l => .tuple #[.string ⟨l.toArray⟩, .int .i64 0]
theorem cell_lt {w : World} {b o : Nat} {v : Value} (h : w.cell? ⟨b, o, none⟩ = some v) : b < w.heap.size := by
 rcases Nat.lt_or_ge b w.heap.size with h' | h'
 ·exact h'
 ·simp [World.cell?, Array.getElem?_eq_none h'] at h
theorem TokRow.below {w w' : World} {v : Value} {ts : List Tok} (h : TokRow w v ts) (hb : Below w.heap.size w w') : TokRow w' v ts := by
 obtain ⟨p, c, rfl, hp⟩ := h
 refine ⟨p, c, rfl, fun j t ht => ?_⟩
 obtain ⟨g, o, rfl, a0, a1, a2, a3⟩ := hp j t ht
 have hg := cell_lt a0
 exact ⟨g, o, rfl, (hb.cell (p := ⟨g, _, none⟩) hg).trans a0, (hb.cell (p := ⟨g, _, none⟩) hg).trans a1, (hb.cell (p := ⟨g, _, none⟩) hg).trans a2, (hb.cell (p := ⟨g, _, none⟩) hg).trans a3⟩
def Fits (ts : List Tok) : Prop := ∀ t ∈ ts, t.2.2.1.length ≤ 35184372088832 ∧ -9223372036854775808 ≤ t.2.2.2 ∧ t.2.2.2 ≤ 9223372036854775807
theorem all_drop {ts : List Tok} {k : Nat} (h : k < ts.length) : (ts.drop k).all sound = (sound ts[k] && (ts.drop (k + 1)).all sound) := by
 rw [List.drop_eq_getElem_cons h, List.all_cons]
theorem Len_w (B b : Nat) (l : Bs) (w : World) (h : zlf B b l w) : Calls Tryz.prog 129 #[.pointer (some ⟨b, 0, none⟩)] w fun e w' => e = .returned (.int .i64 (l.length : Nat)) ∧ w' = w := by
 refine (Tryz.Builder_Len_f B b _ w h).mono ?_
 rintro e w' ⟨rfl, rfl⟩
 exact ⟨by rw [Lib.byteCells_length], rfl⟩
theorem Join_any (v : Value) (ts : List Tok) (w : World) (hv : TokRow w v ts) (hl : ts.length ≤ 1000000) (hF : Fits ts) (ht : Tab w) (h5 : 4 ≤ w.heap.size) :
  Calls Tryz.prog 91 #[v] w fun e w' => e = .returned (zbk (join ts)) ∧ Below w.heap.size w w' := by
 have HF := za3 hF
 have HV := za3 hv
 obtain ⟨p, c, rfl, hp⟩ := hv
 have HP := za3 hp
 clear hp hF
 go_enter Tryz.func91, Tryz.ntmps91
 go_wp2
 go_loopw [11] (fun i wr => ∃ k : Nat, i = .int .i64 k ∧ k ≤ ts.length ∧ Below w.heap.size w wr ∧ Hid (ts.all sound = (ts.drop k).all sound)) (fun i _ => ts.length - (intOf i).toNat)
 case atStart => exact ⟨0, rfl, by omega, Below.refl _ _, rfl⟩
 case round =>
  obtain ⟨k, rfl, hk, hb, HA⟩ := hrel
  by_cases hlt : k < ts.length
  ·obtain ⟨g, o, rfl, a0, a1, a2, a3⟩ := za0 HP k ts[k] (by simp [hlt])
   have hlt' : (k : Int) < (ts.length : Int) := by omega
   have hg := cell_lt a0
   have b0 := (hb.cell (p := ⟨g, _, none⟩) hg).trans a0
   have b1 := (hb.cell (p := ⟨g, _, none⟩) hg).trans a1
   have b2 := (hb.cell (p := ⟨g, _, none⟩) hg).trans a2
   have b3 := (hb.cell (p := ⟨g, _, none⟩) hg).trans a3
   have hft := za0 HF ts[k] (by simp)
   have hsz : ByteArray.size ⟨ts[k].2.2.1.toArray⟩ ≤ 140737488355328 := by show ts[k].2.2.1.toArray.size ≤ _; simp; omega
   by_cases hsd : sound ts[k] = true
   ·have SD := za3 (fun W => sound_any (ts[k].1 : Int) ts[k].2.1 ts[k].2.2.2 ⟨ts[k].2.2.1.toArray⟩ W hsz true (by rw [← hsd]; simp [← zjy ts[k].1]))
    have HN : Hid (ts.all sound = (ts.drop (k + 1)).all sound) := by have e := za0 HA; rw [all_drop hlt, hsd] at e; exact e
    clear a0 a1 a2 a3 hft hsz hsd
    go_wp2_with (go_at_call 127; refine (za0 SD _).mono ?_; rintro e w1 ⟨rfl, hb1⟩)
    go_roundw
    case rel => exact ⟨k + 1, by go_num, by omega, (hb.alloc hb.size _).trans (hb1.mono (by have := hb.size; simp; omega)), HN⟩
    case measure => simp [intOf]; omega
   ·have hsd : sound ts[k] = false := (Bool.not_eq_true _).mp hsd
    have SD := za3 (fun W => sound_any (ts[k].1 : Int) ts[k].2.1 ts[k].2.2.2 ⟨ts[k].2.2.1.toArray⟩ W hsz false (by rw [← hsd]; simp [← zjy ts[k].1]))
    have HN : Hid (join ts = .inl 1) := by
     have e := za0 HA; rw [all_drop hlt, hsd] at e
     show _ = _
     rw [join, if_pos (by rw [e]; rfl)]
    clear a0 a1 a2 a3 hft hsz hsd
    go_wp2_with (go_at_call 127; refine (za0 SD _).mono ?_; rintro e w1 ⟨rfl, hb1⟩)
    go_ret2
    exact ⟨by rw [za0 HN]; rfl, (hb.alloc hb.size _).trans (hb1.mono (by have := hb.size; simp; omega))⟩
  ·have HS : Hid (ts.all sound = true) := by
    have e := za0 HA; rw [List.drop_of_length_le (by omega)] at e; exact e
   obtain ⟨wA, rfl⟩ : ∃ x, x = wr := ⟨_, rfl⟩
   have hbs := hb.size
   have hB5 : 4 ≤ wA.heap.size := by omega
   have HV1 := za3 ((za0 HV).below hb)
   have HT1 := za3 (ht.below hb (by omega))
   clear HP HA
   go_wp2
   go_loopw [21] (fun i wr => ∃ (j : Nat) (acc : Bs), i = .int .i64 j ∧ j ≤ ts.length ∧ acc.length ≤ 65536 ∧ zlf wA.heap.size wA.heap.size acc wr ∧ Below wA.heap.size wA wr ∧ Hid (zev ts 0 [] = zev (ts.drop j) j acc)) (fun i _ => ts.length - (intOf i).toNat)
   case atStart => exact ⟨0, [], rfl, by omega, by simp, Lib.IsBuilderF.of (Lib.fresh_isBuilder 167 5 wA), (Below.refl _ _).alloc (Nat.le_refl _) _, rfl⟩
   case round =>
    obtain ⟨j, acc, rfl, hj, hal, HB, hbx, HJ⟩ := hrel
    have hxs := hbx.size
    have hblt : wA.heap.size < wr.heap.size := by
     rcases HB with h | h
     ·obtain ⟨_, v, hh, _⟩ := h; exact (Array.getElem?_eq_some_iff.1 hh).1
     ·obtain ⟨_, v, hh, _⟩ := h; exact (Array.getElem?_eq_some_iff.1 hh).1
    by_cases hlt2 : j < ts.length
    ·obtain ⟨p', c', hpe, hp'⟩ := za0 HV1
     obtain ⟨g, o, hpg, a0, a1, a2, a3⟩ := hp' j ts[j] (by simp [hlt2])
     simp only [Value.slice.injEq] at hpe
     obtain ⟨rfl, _, rfl⟩ := hpe
     subst hpg
     have hg := cell_lt a0
     have b0 := (hbx.cell (p := ⟨g, _, none⟩) hg).trans a0
     have b1 := (hbx.cell (p := ⟨g, _, none⟩) hg).trans a1
     have b2 := (hbx.cell (p := ⟨g, _, none⟩) hg).trans a2
     have b3 := (hbx.cell (p := ⟨g, _, none⟩) hg).trans a3
     have hft := za0 HF ts[j] (by simp)
     have hlt' : (j : Int) < (ts.length : Int) := by omega
     clear a0 a1 a2 a3 hp'
     have hba : Below wr.heap.size wr (wr.alloc (.cells #[.int .i64 (ts[j].1 : Int), .int .i64 ts[j].2.1, .string ⟨ts[j].2.2.1.toArray⟩, .int .i64 ts[j].2.2.2] 142)) := (Below.refl _ _).alloc (Nat.le_refl _) _
     by_cases hj0 : 0 < j
     ·have hj0' : 0 < (j : Int) := by omega
      go_wp2_with (go_at_call 128; refine (zkf wA.heap.size wA.heap.size _ 32 _ (zf6 HB hba) (by rw [Lib.byteCells_length]; omega) (by simp; omega)).mono ?_; rintro e w2 ⟨rfl, HB2, hb2, ho2⟩)
      have HBB : zlf wA.heap.size wA.heap.size (acc ++ [32]) w2 := by rw [zlf, zd2]; exact HB2
      obtain ⟨A2, hA2⟩ : ∃ A2, A2 = acc ++ [32] := ⟨_, rfl⟩
      have HA2 : A2 = acc ++ (if 0 < j then [32] else []) := by rw [hA2, if_pos hj0]
      have hal2 : A2.length ≤ 65537 := by rw [hA2]; simp; omega
      rw [← hA2] at HBB
      clear hA2
      have hq := ho2 wr.heap.size _ (zaj wr _) (by intro e; injection e with e; omega) (by intro c fz e; injection e with _ e _; exact absurd e (by decide))
      have hbb : Below wA.heap.size wA w2 := (hbx.trans (hba.mono hxs)).trans hb2
      have t0 : w2.cell? ⟨wr.heap.size, 0, none⟩ = some (.int .i64 (ts[j].1 : Int)) := by rw [Lib.cell_of_heap hq]; rfl
      have t1 : w2.cell? ⟨wr.heap.size, 1, none⟩ = some (.int .i64 ts[j].2.1) := by rw [Lib.cell_of_heap hq]; rfl
      have t2 : w2.cell? ⟨wr.heap.size, 2, none⟩ = some (.string ⟨ts[j].2.2.1.toArray⟩) := by rw [Lib.cell_of_heap hq]; rfl
      have t3 : w2.cell? ⟨wr.heap.size, 3, none⟩ = some (.int .i64 ts[j].2.2.2) := by rw [Lib.cell_of_heap hq]; rfl
      have hle : wA.heap.size ≤ w2.heap.size := hbb.size
      have hsz : ByteArray.size ⟨ts[j].2.2.1.toArray⟩ = ts[j].2.2.1.length := by show ts[j].2.2.1.toArray.size = _; simp
      have hJ := za0 HJ
      rw [List.drop_eq_getElem_cons hlt2, zev, ← HA2] at hJ
      have hT2 := (za0 HT1).below hbb hB5
      have HA3 : ∃ A3, A3 = A2 ++ za5 ts[j] := ⟨_, rfl⟩
      obtain ⟨A3, hA3⟩ := HA3
      rw [← hA3] at hJ
      have LN2 := za3 (fun W (h : zlf wA.heap.size wA.heap.size A2 W) => Len_w wA.heap.size wA.heap.size A2 W h)
      by_cases hlong : 65536 < A2.length + ts[j].2.2.1.length
      ·have hlong' : 65536 < (A2.length : Int) + (ts[j].2.2.1.length : Int) := by omega
       rw [if_pos hlong] at hJ
       have HR : Hid (zbk (join ts) = .tuple #[.string ⟨#[]⟩, .int .i64 2]) := by
        show _ = _
        rw [join, if_neg (by rw [za0 HS]; decide), hJ]; rfl
       clear HJ hJ hlong hT2 hA3 HA2 hsz
       go_quiet ((go_at_call 129; exact Calls.quiet_of_same (za0 LN2 _ HBB)))
       go_wp2
       go_ret2
       exact ⟨by rw [za0 HR]; rfl, hb.trans ((below_drewN hbb _).mono hbs)⟩
      ·have hlong' : (A2.length : Int) + (ts[j].2.2.1.length : Int) ≤ 65536 := by omega
       rw [if_neg hlong] at hJ
       have WT : Hid (∀ nq, Calls Tryz.prog 130 #[.pointer (some ⟨wA.heap.size, 0, none⟩), .agg #[.int .i64 (ts[j].1 : Int), .int .i64 ts[j].2.1, .string ⟨ts[j].2.2.1.toArray⟩, .int .i64 ts[j].2.2.2]] (w2.drewN nq) fun e w' => e = .returned (.tuple #[]) ∧ zlf wA.heap.size wA.heap.size A3 w' ∧ Below wA.heap.size (w2.drewN nq) w') := by
        intro nq
        have := zh0 wA.heap.size wA.heap.size A2 (ts[j].1 : Int) ts[j].2.1 ts[j].2.2.2 ⟨ts[j].2.2.1.toArray⟩ (w2.drewN nq) (zf6 HBB (below_drewN (Below.refl _ _) nq)) (hT2.below (below_drewN (Below.refl w2.heap.size w2) nq) (by omega)) (by rw [hsz]; omega) hB5 hle hft.2.1 hft.2.2
        rw [hA3]; exact this
       have LN3 := za3 (fun W (h : zlf wA.heap.size wA.heap.size A3 W) => Len_w wA.heap.size wA.heap.size A3 W h)
       by_cases hlg2 : 65536 < A3.length
       ·have hlg2' : 65536 < (A3.length : Int) := by omega
        rw [if_pos hlg2] at hJ
        have HR : Hid (zbk (join ts) = .tuple #[.string ⟨#[]⟩, .int .i64 2]) := by
         show _ = _
         rw [join, if_neg (by rw [za0 HS]; decide), hJ]; rfl
        clear HJ hJ hlong hT2 hA3 HA2 hsz hlg2
        go_quiet ((go_at_call 129; exact Calls.quiet_of_same (za0 LN2 _ HBB)))
        go_wp2_with (first | (go_at_call 130; refine (za0 WT nq).mono ?_; clear WT; rintro e w3 ⟨rfl, h3, hb3⟩) | (go_at_call 129; refine (za0 LN3 _ h3).mono ?_; rintro e w4 ⟨rfl, rfl⟩))
        go_ret2
        exact ⟨by rw [za0 HR]; rfl, hb.trans (((below_drewN hbb _).trans hb3).mono hbs)⟩
       ·have hlg2' : (A3.length : Int) ≤ 65536 := by omega
        rw [if_neg hlg2] at hJ
        have HN := za3 hJ
        clear HJ hJ hlong hT2 hA3 HA2 hsz hlg2
        go_quiet ((go_at_call 129; exact Calls.quiet_of_same (za0 LN2 _ HBB)))
        go_wp2_with (first | (go_at_call 130; refine (za0 WT nq).mono ?_; clear WT; rintro e w3 ⟨rfl, h3, hb3⟩) | (go_at_call 129; refine (za0 LN3 _ h3).mono ?_; rintro e w4 ⟨rfl, rfl⟩))
        go_roundw
        case rel => exact ⟨j + 1, A3, by go_num, by omega, by omega, h3, (below_drewN hbb _).trans hb3, HN⟩
        case measure => simp [intOf]; omega
     ·have hj0' : (j : Int) ≤ 0 := by omega
      go_wp2
      have HBB : zlf wA.heap.size wA.heap.size acc (wr.alloc (.cells #[.int .i64 (ts[j].1 : Int), .int .i64 ts[j].2.1, .string ⟨ts[j].2.2.1.toArray⟩, .int .i64 ts[j].2.2.2] 142)) := zf6 HB hba
      have hq := zaj wr (.cells #[.int .i64 (ts[j].1 : Int), .int .i64 ts[j].2.1, .string ⟨ts[j].2.2.1.toArray⟩, .int .i64 ts[j].2.2.2] 142)
      have hbb : Below wA.heap.size wA (wr.alloc (.cells #[.int .i64 (ts[j].1 : Int), .int .i64 ts[j].2.1, .string ⟨ts[j].2.2.1.toArray⟩, .int .i64 ts[j].2.2.2] 142)) := hbx.trans (hba.mono hxs)
      clear hba
      revert HBB hq hbb
      generalize wr.alloc (.cells #[.int .i64 (ts[j].1 : Int), .int .i64 ts[j].2.1, .string ⟨ts[j].2.2.1.toArray⟩, .int .i64 ts[j].2.2.2] 142) = w2
      intro HBB hq hbb
      obtain ⟨A2, hA2⟩ : ∃ A2, A2 = acc := ⟨_, rfl⟩
      have HA2 : A2 = acc ++ (if 0 < j then [32] else []) := by rw [hA2, if_neg hj0]; simp
      have hal2 : A2.length ≤ 65537 := by rw [hA2]; omega
      rw [← hA2] at HBB
      clear hA2
      have t0 : w2.cell? ⟨wr.heap.size, 0, none⟩ = some (.int .i64 (ts[j].1 : Int)) := by rw [Lib.cell_of_heap hq]; rfl
      have t1 : w2.cell? ⟨wr.heap.size, 1, none⟩ = some (.int .i64 ts[j].2.1) := by rw [Lib.cell_of_heap hq]; rfl
      have t2 : w2.cell? ⟨wr.heap.size, 2, none⟩ = some (.string ⟨ts[j].2.2.1.toArray⟩) := by rw [Lib.cell_of_heap hq]; rfl
      have t3 : w2.cell? ⟨wr.heap.size, 3, none⟩ = some (.int .i64 ts[j].2.2.2) := by rw [Lib.cell_of_heap hq]; rfl
      have hle : wA.heap.size ≤ w2.heap.size := hbb.size
      have hsz : ByteArray.size ⟨ts[j].2.2.1.toArray⟩ = ts[j].2.2.1.length := by show ts[j].2.2.1.toArray.size = _; simp
      have hJ := za0 HJ
      rw [List.drop_eq_getElem_cons hlt2, zev, ← HA2] at hJ
      have hT2 := (za0 HT1).below hbb hB5
      have HA3 : ∃ A3, A3 = A2 ++ za5 ts[j] := ⟨_, rfl⟩
      obtain ⟨A3, hA3⟩ := HA3
      rw [← hA3] at hJ
      have LN2 := za3 (fun W (h : zlf wA.heap.size wA.heap.size A2 W) => Len_w wA.heap.size wA.heap.size A2 W h)
      by_cases hlong : 65536 < A2.length + ts[j].2.2.1.length
      ·have hlong' : 65536 < (A2.length : Int) + (ts[j].2.2.1.length : Int) := by omega
       rw [if_pos hlong] at hJ
       have HR : Hid (zbk (join ts) = .tuple #[.string ⟨#[]⟩, .int .i64 2]) := by
        show _ = _
        rw [join, if_neg (by rw [za0 HS]; decide), hJ]; rfl
       clear HJ hJ hlong hT2 hA3 HA2 hsz
       go_quiet ((go_at_call 129; exact Calls.quiet_of_same (za0 LN2 _ HBB)))
       go_wp2
       go_ret2
       exact ⟨by rw [za0 HR]; rfl, hb.trans ((below_drewN hbb _).mono hbs)⟩
      ·have hlong' : (A2.length : Int) + (ts[j].2.2.1.length : Int) ≤ 65536 := by omega
       rw [if_neg hlong] at hJ
       have WT : Hid (∀ nq, Calls Tryz.prog 130 #[.pointer (some ⟨wA.heap.size, 0, none⟩), .agg #[.int .i64 (ts[j].1 : Int), .int .i64 ts[j].2.1, .string ⟨ts[j].2.2.1.toArray⟩, .int .i64 ts[j].2.2.2]] (w2.drewN nq) fun e w' => e = .returned (.tuple #[]) ∧ zlf wA.heap.size wA.heap.size A3 w' ∧ Below wA.heap.size (w2.drewN nq) w') := by
        intro nq
        have := zh0 wA.heap.size wA.heap.size A2 (ts[j].1 : Int) ts[j].2.1 ts[j].2.2.2 ⟨ts[j].2.2.1.toArray⟩ (w2.drewN nq) (zf6 HBB (below_drewN (Below.refl _ _) nq)) (hT2.below (below_drewN (Below.refl w2.heap.size w2) nq) (by omega)) (by rw [hsz]; omega) hB5 hle hft.2.1 hft.2.2
        rw [hA3]; exact this
       have LN3 := za3 (fun W (h : zlf wA.heap.size wA.heap.size A3 W) => Len_w wA.heap.size wA.heap.size A3 W h)
       by_cases hlg2 : 65536 < A3.length
       ·have hlg2' : 65536 < (A3.length : Int) := by omega
        rw [if_pos hlg2] at hJ
        have HR : Hid (zbk (join ts) = .tuple #[.string ⟨#[]⟩, .int .i64 2]) := by
         show _ = _
         rw [join, if_neg (by rw [za0 HS]; decide), hJ]; rfl
        clear HJ hJ hlong hT2 hA3 HA2 hsz hlg2
        go_quiet ((go_at_call 129; exact Calls.quiet_of_same (za0 LN2 _ HBB)))
        go_wp2_with (first | (go_at_call 130; refine (za0 WT nq).mono ?_; clear WT; rintro e w3 ⟨rfl, h3, hb3⟩) | (go_at_call 129; refine (za0 LN3 _ h3).mono ?_; rintro e w4 ⟨rfl, rfl⟩))
        go_ret2
        exact ⟨by rw [za0 HR]; rfl, hb.trans (((below_drewN hbb _).trans hb3).mono hbs)⟩
       ·have hlg2' : (A3.length : Int) ≤ 65536 := by omega
        rw [if_neg hlg2] at hJ
        have HN := za3 hJ
        clear HJ hJ hlong hT2 hA3 HA2 hsz hlg2
        go_quiet ((go_at_call 129; exact Calls.quiet_of_same (za0 LN2 _ HBB)))
        go_wp2_with (first | (go_at_call 130; refine (za0 WT nq).mono ?_; clear WT; rintro e w3 ⟨rfl, h3, hb3⟩) | (go_at_call 129; refine (za0 LN3 _ h3).mono ?_; rintro e w4 ⟨rfl, rfl⟩))
        go_roundw
        case rel => exact ⟨j + 1, A3, by go_num, by omega, by omega, h3, (below_drewN hbb _).trans hb3, HN⟩
        case measure => simp [intOf]; omega
    ·have HR : Hid (zev ts 0 [] = some acc) := by
      have e := za0 HJ
      rw [List.drop_of_length_le (by omega)] at e
      exact e
     clear HJ
     by_cases hmany : 4096 < ts.length
     ·have hm' : 4096 < (ts.length : Int) := by omega
      have HX : Hid (zbk (join ts) = .tuple #[.string ⟨#[]⟩, .int .i64 3]) := by
       show _ = _
       rw [join, if_neg (by rw [za0 HS]; decide), za0 HR]; simp [hmany, zbk]
      clear hmany
      go_wp2
      go_ret2
      exact ⟨by rw [za0 HX]; rfl, hb.trans (hbx.mono hbs)⟩
     ·have hm' : (ts.length : Int) ≤ 4096 := by omega
      have HX : Hid (zbk (join ts) = .tuple #[.string ⟨acc.toArray⟩, .int .i64 0]) := by
       show _ = _
       rw [join, if_neg (by rw [za0 HS]; decide), za0 HR]; simp [hmany, zbk]
      clear hmany
      have BS := za3 (Tryz.Builder_String_any_f wA.heap.size wA.heap.size acc wr HB hxs)
      go_wp2_with (go_at_call 131; refine (za0 BS).mono ?_; rintro e w3 ⟨rfl, _, hb3⟩)
      go_ret2
      exact ⟨by rw [za0 HX]; rfl, hb.trans ((hbx.trans hb3).mono hbs)⟩
end Go.Proofs.YtmpbbmfbgcpplaaGreatDoor
