/-
  writeText and writeToken of package lex, walked.
-/
import Derived.Test.YthplgkkailieoaaGreatDoorSound2
import Derived.Test.YthplgkkailieoaaGreatDoorBuildF
namespace Go.Proofs.YthplgkkailieoaaGreatDoor
namespace Lx
def esc1 (c : UInt8) : Bs := if c = 10 then [92, 110] else if c = 34 then [92, 34] else if c = 92 then [92, 92] else [c]
def escs (l : Bs) : Bs := l.flatMap esc1
def quote (l : Bs) : Bs := 34 :: (escs l ++ [34])
theorem escs_cons (c : UInt8) (r : Bs) : escs (c :: r) = esc1 c ++ escs r := by simp [escs]
theorem esc1_len (c : UInt8) : (esc1 c).length ≤ 2 := by unfold esc1; repeat' split
                                                         all_goals simp
end Lx
open Go Go.RowKit Lx

theorem byteCells_append (a b : Bs) : Lib.byteCells (a ++ b) = Lib.byteCells a ++ Lib.byteCells b := by simp [Lib.byteCells]
abbrev IsBB (B b : Nat) (l : Bs) (w : World) : Prop := IsF B b (Lib.byteCells l) w
theorem WByte (B b : Nat) (l : Bs) (c : UInt8) (x : Int) (hx : x = (c.toNat : Int)) (w : World) (h : IsBB B b l w) (hlen : l.length + 1 ≤ 140737488355328) (hBw : B ≤ w.heap.size) :
    Calls Tryz.prog 39 #[.pointer (some ⟨b, 0, none⟩), .int .u8 x] w fun e w' => e = .returned .nilIface ∧ IsBB B b (l ++ [c]) w' ∧ Below B w w' := by
  subst hx
  refine (WriteByte_k B b _ _ w h (by rw [Lib.byteCells_length]; exact hlen) hBw).mono ?_
  rintro e w' ⟨h1, h2, h3, _⟩
  exact ⟨h1, by rw [IsBB, cells_snoc]; exact h2, h3⟩
theorem WString (B b : Nat) (l : Bs) (s : ByteArray) (w : World) (h : IsBB B b l w) (hlen : l.length + s.size ≤ 140737488355328) (hBw : B ≤ w.heap.size) :
    Calls Tryz.prog 68 #[.pointer (some ⟨b, 0, none⟩), .string s] w fun e w' => e = .returned (.tuple #[.int .i64 s.size, .nilIface]) ∧ IsBB B b (l ++ s.data.toList) w' ∧ Below B w w' := by
  refine (WriteString_k B b _ _ w h (by rw [Lib.byteCells_length]; exact hlen) hBw).mono ?_
  rintro e w' ⟨h1, h2, h3, _⟩
  have e2 : Lib.strCells s = Lib.byteCells s.data.toList := by
    simp [Lib.strCells, Lib.byteCells]
  exact ⟨h1, by rw [IsBB, byteCells_append, ← e2]; exact h2, h3⟩

set_option maxHeartbeats 1000000 in
set_option maxRecDepth 100000 in
theorem writeText_any (B b : Nat) (l : Bs) (s : ByteArray) (w : World) (h : IsBB B b l w) (hlen : l.length + 2 * s.size + 2 ≤ 140737488355328) (hBw : B ≤ w.heap.size) :
    Calls Tryz.prog 69 #[.pointer (some ⟨b, 0, none⟩), .string s] w fun e w' => e = .returned (.tuple #[]) ∧ IsBB B b (l ++ quote s.data.toList) w' ∧ Below B w w' := by
  go_enter Tryz.func69, Tryz.ntmps69
  go_wp2_with (go_at_call 39; refine (WByte B b l 34 34 rfl _ h (by omega) hBw).mono ?_; rintro e w1 ⟨rfl, h1, hb1⟩)
  go_loopw [9] (fun i wr => ∃ (k : Nat) (m : Bs), k ≤ s.size ∧ i = .int .i64 k ∧ m.length ≤ l.length + 1 + 2 * k ∧ IsBB B b m wr ∧ Below B w wr ∧ Hid (l ++ [34] ++ escs s.data.toList = m ++ escs (s.data.toList.drop k))) (fun i _ => s.size - (intOf i).toNat)
  case atStart => exact ⟨0, l ++ [34], by omega, rfl, by simp, h1, hb1, rfl⟩
  case round =>
    obtain ⟨k, m, hk, rfl, hml, hm, hbm, HE⟩ := hrel
    have hBr : B ≤ wr.heap.size := Nat.le_trans hBw hbm.size
    by_cases hlt : k < s.size
    · have HS := hide (drop_cons s k hlt)
      by_cases h10 : (s[k].toNat : Int) = 10
      · have q : ((s[k].toNat : Int) == 10) = true := by simp [h10]
        have HC : Hid (esc1 s[k] = [92, 110]) := by rw [byte_is (n := 10) (by decide) h10]; exact rfl
        clear h10
        go_wp2_with (go_at_call 68; refine (WString B b m ⟨#[92, 110]⟩ _ hm (by show m.length + 2 ≤ _; omega) hBr).mono ?_; rintro e w3 ⟨rfl, h3, hb3⟩)
        go_roundw
        case rel => exact ⟨k + 1, m ++ [92, 110], by omega, by go_num, by simp; omega, h3, hbm.trans hb3, by have e := unhide HE; rw [unhide HS, escs_cons, unhide HC] at e; show _ = _; rw [e]; simp⟩
        case measure => simp [intOf]; omega
      · have q : ((s[k].toNat : Int) == 10) = false := by simpa using h10
        have n10 : s[k] ≠ 10 := fun h => h10 (by rw [h]; rfl)
        by_cases h34 : (s[k].toNat : Int) = 34
        · have q2 : ((s[k].toNat : Int) == 34) = true := by simp [h34]
          have hs34 : s[k] = 34 := byte_is (n := 34) (by decide) h34
          have HC : Hid (esc1 s[k] = [92, s[k]]) := by rw [hs34]; exact rfl
          clear h10 h34 hs34 n10
          go_wp2_with (first | (go_at_call 39; refine (WByte B b m 92 92 rfl _ hm (by omega) hBr).mono ?_; clear hm; rintro e w2 ⟨rfl, h2, hb2⟩) | (go_at_call 39; refine (WByte B b (m ++ [92]) s[k] _ rfl _ h2 (by simp; omega) (Nat.le_trans hBr hb2.size)).mono ?_; rintro e w3 ⟨rfl, h3, hb3'⟩; have hb3 := hb2.trans hb3'))
          go_roundw
          case rel => exact ⟨k + 1, m ++ [92] ++ [s[k]], by omega, by go_num, by simp; omega, h3, hbm.trans hb3, by have e := unhide HE; rw [unhide HS, escs_cons, unhide HC] at e; show _ = _; rw [e]; simp⟩
          case measure => simp [intOf]; omega
        · have q2 : ((s[k].toNat : Int) == 34) = false := by simpa using h34
          have n34 : s[k] ≠ 34 := fun h => h34 (by rw [h]; rfl)
          by_cases h92 : (s[k].toNat : Int) = 92
          · have q3 : ((s[k].toNat : Int) == 92) = true := by simp [h92]
            have hs92 : s[k] = 92 := byte_is (n := 92) (by decide) h92
            have HC : Hid (esc1 s[k] = [92, s[k]]) := by rw [hs92]; exact rfl
            clear h10 h34 h92 hs92 n10 n34
            go_wp2_with (first | (go_at_call 39; refine (WByte B b m 92 92 rfl _ hm (by omega) hBr).mono ?_; clear hm; rintro e w2 ⟨rfl, h2, hb2⟩) | (go_at_call 39; refine (WByte B b (m ++ [92]) s[k] _ rfl _ h2 (by simp; omega) (Nat.le_trans hBr hb2.size)).mono ?_; rintro e w3 ⟨rfl, h3, hb3'⟩; have hb3 := hb2.trans hb3'))
            go_roundw
            case rel => exact ⟨k + 1, m ++ [92] ++ [s[k]], by omega, by go_num, by simp; omega, h3, hbm.trans hb3, by have e := unhide HE; rw [unhide HS, escs_cons, unhide HC] at e; show _ = _; rw [e]; simp⟩
            case measure => simp [intOf]; omega
          · have q3 : ((s[k].toNat : Int) == 92) = false := by simpa using h92
            have n92 : s[k] ≠ 92 := fun h => h92 (by rw [h]; rfl)
            have HC : Hid (esc1 s[k] = [s[k]]) := by show _ = _; rw [esc1, if_neg n10, if_neg n34, if_neg n92]
            clear h10 h34 h92 n10 n34 n92
            go_wp2_with (go_at_call 39; refine (WByte B b m s[k] _ rfl _ hm (by omega) hBr).mono ?_; rintro e w3 ⟨rfl, h3, hb3⟩)
            go_roundw
            case rel => exact ⟨k + 1, m ++ [s[k]], by omega, by go_num, by simp; omega, h3, hbm.trans hb3, by have e := unhide HE; rw [unhide HS, escs_cons, unhide HC] at e; show _ = _; rw [e]; simp⟩
            case measure => simp [intOf]; omega
    · have HQ : Hid (l ++ quote s.data.toList = m ++ [34]) := by
        have e := unhide HE
        rw [List.drop_of_length_le (by rw [len_data]; omega)] at e
        show _ = _
        rw [quote]; simp [escs] at e ⊢; simp [← e]
      go_wp2_with (go_at_call 39; refine (WByte B b m 34 34 rfl _ hm (by omega) hBr).mono ?_; rintro e w3 ⟨rfl, h3, hb3⟩)
      go_end0
      exact ⟨rfl, by rw [unhide HQ]; exact h3, hbm.trans hb3⟩
end Go.Proofs.YthplgkkailieoaaGreatDoor
