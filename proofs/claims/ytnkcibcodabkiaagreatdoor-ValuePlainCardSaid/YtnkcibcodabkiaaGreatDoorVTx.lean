/-
  What package value writes of an int, a bool and a text: (Shapes).Text, walked. Own work.
-/
import Derived.Test.YtnkcibcodabkiaaGreatDoorVWr
import Derived.Lib.ItoaLen
import Derived.Lib.AppendIntMem
namespace Go.Proofs.YtnkcibcodabkiaaGreatDoor
open Go Go.RowKit Go.Proofs

abbrev PowTab (w : World) : Prop := Lib.TabIs Tryz.prog w "internal/strconv.uint64pow10" .u64 Lib.pow10Tab
theorem pow_global : Tryz.prog.globalNamed "internal/strconv.uint64pow10" = some 0 := by kernel_rfl
theorem Itoa_tab (n : Int) (h0 : -9223372036854775808 ≤ n) (h1 : n ≤ 9223372036854775807) (w : World) (ht : PowTab w) :
    Calls Tryz.prog 142 #[.int .i64 n] w fun e w' => e = .returned (.string ⟨(Lib.itoa n).toArray⟩) ∧ Below w.heap.size w w' := by
  refine (Tryz.strconv_Itoa n h0 h1 w ht).mono ?_
  rintro e w' ⟨rfl, k, os, rfl⟩
  exact ⟨rfl, Lib.below_grow _ w (Nat.le_refl _) k os⟩
def boolS (q : Bool) : ByteArray := if q then ⟨#[116, 114, 117, 101]⟩ else ⟨#[102, 97, 108, 115, 101]⟩
set_option maxHeartbeats 1000000 in
set_option maxRecDepth 100000 in
theorem FormatBool_any (q : Bool) (w : World) : Calls Tryz.prog 143 #[.bool q] w fun e w' => e = .returned (.string (boolS q)) ∧ w = w' := by
  have IN := hide (show Calls Tryz.prog 189 #[.bool q] w fun e w' => e = .returned (.string (boolS q)) ∧ w = w' by
    cases q
    all_goals
      go_enter Tryz.func189, Tryz.ntmps189
      go_wp2
      go_ret
      exact ⟨rfl, rfl⟩)
  go_enter Tryz.func143, Tryz.ntmps143
  go_wp2_with (go_at_call 189; refine (unhide IN).mono ?_)
  rintro e w1 ⟨rfl, rfl⟩
  go_wp2
  go_ret
  exact ⟨rfl, rfl⟩
/-- a writer that was written into once. -/
def Wrote (b : Nat) (s : ByteArray) (c g m : Value) (w : World) : Prop := ∃ v, WrAt b (.pointer (some ⟨b, 0, none⟩)) v c g m w ∧ w.ownsRow (b + 1) 5 1 v s.size (Lib.strCells s) ∧ (s.size = 0 → v = .slice none 0 0)
set_option maxHeartbeats 2000000 in
set_option maxRecDepth 100000 in
theorem write_int (b bv : Nat) (n : Int) (c g m : Value) (w : World) (h : WrAt b (.pointer none) (.slice none 0 0) c g m w) (hk : w.cell? ⟨bv, 0, none⟩ = some (.int .i64 1)) (hn : w.cell? ⟨bv, 2, none⟩ = some (.int .i64 n)) (n0 : -9223372036854775808 ≤ n) (n1 : n ≤ 9223372036854775807) (ht : PowTab w) (hl : 0 < w.heap.size) :
    Calls Tryz.prog 94 #[.pointer (some ⟨b, 0, none⟩), .pointer (some ⟨bv, 0, none⟩)] w fun e w' => e = .returned (.tuple #[]) ∧ Wrote b ⟨(Lib.itoa n).toArray⟩ c g m w' ∧ Below b w w' := by
  have hlt := h.lt
  have IT := hide (fun W (hW : Below w.heap.size w W) => Itoa_tab n n0 n1 W (var?_below hW pow_global hl ht))
  have hil := Lib.itoa_length_le n n0 n1
  have WS := hide (fun W (hW : Below w.heap.size w W) => wr_string b c g m ⟨(Lib.itoa n).toArray⟩ W (h.below hW hlt) (by have : (⟨(Lib.itoa n).toArray⟩ : ByteArray).size = (Lib.itoa n).length := rfl; omega))
  clear h ht
  go_enter Tryz.func94, Tryz.ntmps94
  go_wp2
  go_region_with (first | (go_at_call 142; refine (unhide IT _ (Below.drew (Below.refl _ _))).mono ?_; rintro e w2 ⟨rfl, hb2⟩; have hb1 := (Below.drew (Below.refl w.heap.size w)).trans hb2) | (go_at_call 141; refine (unhide WS _ hb1).mono ?_; rintro e w3 ⟨rfl, v3, h3, h4, h5, hb3⟩))
  all_goals
    go_wp2
    go_end0
    exact ⟨rfl, ⟨v3, h3, h4, h5⟩, (Below.mono hb1 (by omega)).trans hb3⟩
set_option maxHeartbeats 2000000 in
set_option maxRecDepth 100000 in
theorem write_bool (b bv : Nat) (n : Int) (q : Bool) (c g m : Value) (w : World) (h : WrAt b (.pointer none) (.slice none 0 0) c g m w) (hk : w.cell? ⟨bv, 0, none⟩ = some (.int .i64 2)) (hn : w.cell? ⟨bv, 2, none⟩ = some (.int .i64 n)) (hq : (n == 1) = q) :
    Calls Tryz.prog 94 #[.pointer (some ⟨b, 0, none⟩), .pointer (some ⟨bv, 0, none⟩)] w fun e w' => e = .returned (.tuple #[]) ∧ Wrote b (boolS q) c g m w' ∧ Below b w w' := by
  have hlt := h.lt
  have hb1 : Below w.heap.size w w.drew := Below.drew (Below.refl _ _)
  have FB := hide (fun W => FormatBool_any q W)
  have WS := hide (fun W (hW : Below w.heap.size w W) => wr_string b c g m (boolS q) W (h.below hW hlt) (by cases q <;> decide))
  clear h
  go_enter Tryz.func94, Tryz.ntmps94
  go_wp2
  go_region_with (first | (go_at_call 143; refine (unhide FB _).mono ?_; rintro e w2 ⟨rfl, rfl⟩) | (go_at_call 141; refine (unhide WS _ hb1).mono ?_; rintro e w3 ⟨rfl, v3, h3, h4, h5, hb3⟩))
  all_goals
    go_wp2
    go_end0
    exact ⟨rfl, ⟨v3, h3, h4, h5⟩, (Below.mono hb1 (by omega)).trans hb3⟩
set_option maxHeartbeats 2000000 in
set_option maxRecDepth 100000 in
theorem write_text (b bv : Nat) (s : ByteArray) (c g m : Value) (w : World) (h : WrAt b (.pointer none) (.slice none 0 0) c g m w) (hk : w.cell? ⟨bv, 0, none⟩ = some (.int .i64 3)) (hn : w.cell? ⟨bv, 3, none⟩ = some (.string s)) (hs : s.size ≤ 140737488355328) :
    Calls Tryz.prog 94 #[.pointer (some ⟨b, 0, none⟩), .pointer (some ⟨bv, 0, none⟩)] w fun e w' => e = .returned (.tuple #[]) ∧ Wrote b s c g m w' ∧ Below b w w' := by
  have hlt := h.lt
  have hb1 : Below w.heap.size w w.drew := Below.drew (Below.refl _ _)
  have WS := hide (fun W (hW : Below w.heap.size w W) => wr_string b c g m s W (h.below hW hlt) hs)
  clear h
  go_enter Tryz.func94, Tryz.ntmps94
  go_wp2
  go_region_with (first | (go_at_call 141; refine (unhide WS _ hb1).mono ?_; rintro e w3 ⟨rfl, v3, h3, h4, h5, hb3⟩))
  all_goals
    go_wp2
    go_end0
    exact ⟨rfl, ⟨v3, h3, h4, h5⟩, (Below.mono hb1 (by omega)).trans hb3⟩
end Go.Proofs.YtnkcibcodabkiaaGreatDoor
