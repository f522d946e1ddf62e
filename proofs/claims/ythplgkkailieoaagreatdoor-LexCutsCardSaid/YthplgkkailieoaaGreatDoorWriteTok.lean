/-
  writeToken of package lex, walked.
-/
import Derived.Test.YthplgkkailieoaaGreatDoorWrite
import Derived.Lib.ItoaLen
import Derived.Lib.AppendIntMem
import Derived.WalkSmall
namespace Go.Proofs.YthplgkkailieoaaGreatDoor
namespace Lx
/-- a token's own text. -/
def tokText (t : Tok) : Bs := if t.2.1 = 4 then Lib.itoa t.2.2.2 else if t.2.1 = 5 then quote t.2.2.1 else t.2.2.1
end Lx
open Go Go.RowKit Lx

abbrev Tab (w : World) : Prop := Lib.TabIs Tryz.prog w "internal/strconv.uint64pow10" .u64 Lib.pow10Tab
theorem tab_global : Tryz.prog.globalNamed "internal/strconv.uint64pow10" = some 1 := by kernel_rfl
theorem Tab.below {B : Nat} {w w' : World} (h : Tab w) (hb : Below B w w') (hB : 5 ≤ B) : Tab w' := var?_below hb tab_global (by omega) h
theorem Itoa_any (n : Int) (h0 : -9223372036854775808 ≤ n) (h1 : n ≤ 9223372036854775807) (w : World) (ht : Tab w) :
    Calls Tryz.prog 59 #[.int .i64 n] w fun e w' => e = .returned (.string ⟨(Lib.itoa n).toArray⟩) ∧ Below w.heap.size w w' := by
  refine (Tryz.strconv_Itoa n h0 h1 w ht).mono ?_
  rintro e w' ⟨rfl, k, os, rfl⟩
  exact ⟨rfl, Lib.below_grow _ w (Nat.le_refl _) k os⟩

/-- A builder stays what it is where nothing that lay has turned. -/
theorem isB_below {B b : Nat} {bs : List Value} {w w' : World} (h : IsF B b bs w) (hb : Below w.heap.size w w') : IsF B b bs w' := by
  have at_ : ∀ p, Lib.BuilderAtF 87 5 B b p bs w → Lib.BuilderAtF 87 5 B b p bs w' := by
    rintro p ⟨hB, v, hbk, hown, hne⟩
    refine ⟨hB, v, (hb.block b (Array.getElem?_eq_some_iff.1 hbk).1).trans hbk, hown.kept (grown_of_below hb) ?_, hne⟩
    cases ho : v.ownBlock with
    | none => exact .inl rfl
    | some g => exact .inr (by simp)
  rcases h with h | h
  · exact .inl (at_ _ h)
  · exact .inr (at_ _ h)
theorem bcells {B : Nat} {W w1 : World} (hb : Below B W w1) : (∀ b o, b < B → w1.cell? ⟨b, o, none⟩ = W.cell? ⟨b, o, none⟩) := fun b o h => hb.cell (p := ⟨b, o, none⟩) h
set_option maxHeartbeats 1000000 in
set_option maxRecDepth 100000 in
theorem writeToken_any (B b : Nat) (l : Bs) (a k v : Int) (s : ByteArray) (w : World) (h : IsBB B b l w) (ht : Tab w) (hlen : l.length + 2 * s.size + 21 ≤ 140737488355328) (hB5 : 5 ≤ B) (hBw : B ≤ w.heap.size) (v0 : -9223372036854775808 ≤ v) (v1 : v ≤ 9223372036854775807) :
    Calls Tryz.prog 41 #[.pointer (some ⟨b, 0, none⟩), .agg #[.int .i64 a, .int .i64 k, .string s, .int .i64 v]] w fun e w' => e = .returned (.tuple #[]) ∧ IsBB B b (l ++ tokText (0, k, s.data.toList, v)) w' ∧ Below B w w' := by
  have hba : Below w.heap.size w (w.alloc (.cells #[.int .i64 a, .int .i64 k, .string s, .int .i64 v] 40)) := (Below.refl _ _).alloc (Nat.le_refl _) _
  have h1 : IsBB B b l (w.alloc (.cells #[.int .i64 a, .int .i64 k, .string s, .int .i64 v] 40)) := isB_below h hba
  have ht1 := ht.below hba (by omega)
  have hsz : B ≤ (w.alloc (.cells #[.int .i64 a, .int .i64 k, .string s, .int .i64 v] 40)).heap.size := by simp; omega
  have hbB := hba.mono hBw
  by_cases h4 : k = 4
  · have HT : Hid (tokText (0, k, s.data.toList, v) = Lib.itoa v) := by show _ = _; simp [tokText, h4]
    have hil := Lib.itoa_length_le v v0 v1
    have e4 : (k == 4) = true := by simp [h4]
    have IT := hide (Itoa_any v v0 v1 _ ht1)
    have hz : ByteArray.size ⟨(Lib.itoa v).toArray⟩ ≤ 21 := by show (Lib.itoa v).toArray.size ≤ 21; simpa using hil
    have WS := hide (fun W hW hX => WString B b l ⟨(Lib.itoa v).toArray⟩ W hW (by omega) hX)
    clear hz hil
    clear h4 ht ht1 h hba
    go_enter Tryz.func41, Tryz.ntmps41
    go_wp2_with (first | (go_at_call 59; refine (unhide IT).mono ?_; rintro e w2 ⟨rfl, hb2⟩) | (go_at_call 68; refine (unhide WS _ (isB_below h1 hb2) (Nat.le_trans hsz hb2.size)).mono ?_; rintro e w3 ⟨rfl, h3, hb3⟩))
    go_end0
    exact ⟨rfl, by rw [unhide HT]; simpa using h3, (hbB.trans (hb2.mono hsz)).trans hb3⟩
  · have e4 : (k == 4) = false := by rw [beq_eq_false_iff_ne]; exact h4
    by_cases h5 : k = 5
    · have HT : Hid (tokText (0, k, s.data.toList, v) = quote s.data.toList) := by show _ = _; simp [tokText, h5]
      have e5 : (k == 5) = true := by simp [h5]
      clear h4 h5 ht ht1 h hba
      go_enter Tryz.func41, Tryz.ntmps41
      go_wp2_with (go_at_call 69; refine (writeText_any B b l s _ h1 (by omega) hsz).mono ?_; rintro e w3 ⟨rfl, h3, hb3⟩)
      go_end0
      exact ⟨rfl, by rw [unhide HT]; exact h3, hbB.trans hb3⟩
    · have e5 : (k == 5) = false := by rw [beq_eq_false_iff_ne]; exact h5
      have HT : Hid (tokText (0, k, s.data.toList, v) = s.data.toList) := by show _ = _; simp [tokText, h4, h5]
      clear h4 h5 ht ht1 h hba
      go_enter Tryz.func41, Tryz.ntmps41
      go_wp2_with (go_at_call 68; refine (WString B b l s _ h1 (by omega) hsz).mono ?_; rintro e w3 ⟨rfl, h3, hb3⟩)
      go_end0
      exact ⟨rfl, by rw [unhide HT]; exact h3, hbB.trans hb3⟩
end Go.Proofs.YthplgkkailieoaaGreatDoor
