/-
  Refusal's Error, and coillaw1.refused, walked.
-/
import Derived.Test.YthplgkkailieoaaGreatDoorErrno
import Derived.Deep.RegionWith
namespace Go.Proofs.YthplgkkailieoaaGreatDoor
open Go Go.RowKit

theorem Where_any (a : Int) (w : World) : Calls Tryz.prog 27 #[.agg #[.int .i64 a]] w fun e w' => e = .returned (.int .i64 a) ∧ Below w.heap.size w w' := by
  go_enter Tryz.func27, Tryz.ntmps27
  go_wp2
  go_ret
  exact ⟨rfl, (Below.refl _ _).alloc (Nat.le_refl _) _⟩

/-- A refusal in block b. -/
def RefAt (b : Nat) (p y : Nat) (W : World) : Prop := W.heap[b]? = some (.cells #[.int .i64 (p : Int), .int .i64 (y : Int)] 71)
theorem RefAt.c0 {b p y : Nat} {W : World} (h : RefAt b p y W) : W.cell? ⟨b, 0, none⟩ = some (.int .i64 (p : Int)) := by simp [World.cell?, show W.heap[b]? = _ from h]
theorem RefAt.c1 {b p y : Nat} {W : World} (h : RefAt b p y W) : W.cell? ⟨b, 1, none⟩ = some (.int .i64 (y : Int)) := by simp [World.cell?, show W.heap[b]? = _ from h]
theorem RefAt.lt {b p y : Nat} {W : World} (h : RefAt b p y W) : b < W.heap.size := (Array.getElem?_eq_some_iff.1 h).1
theorem RefAt.below {B b p y : Nat} {W W' : World} (h : RefAt b p y W) (hb : Below B W W') (hB : b < B) : RefAt b p y W' := (hb.block b hB).trans h

theorem text_not_empty (s x : ByteArray) : (s ++ (⟨#[32, 97, 116, 32]⟩ : ByteArray) ++ x).toList.isEmpty = false := by
  apply not_empty_of
  rw [ByteArray.size_append, ByteArray.size_append]
  have : ByteArray.size ⟨#[32, 97, 116, 32]⟩ = 4 := rfl
  omega
theorem below_of_drew {w W : World} (h : Below w.drew.heap.size w.drew W) : Below w.heap.size w W := ⟨h.os, h.tape, h.output, h.size, h.block⟩
set_option maxHeartbeats 2000000 in
set_option maxRecDepth 100000 in
theorem Error_any (b p y : Nat) (hy : LexNo y) (hp : p ≤ 140737488355328) (w : World) (h : RefAt b p y w) (ht : Tab w) (h5 : 5 ≤ w.heap.size) :
    Calls Tryz.prog 28 #[.pointer (some ⟨b, 0, none⟩)] w fun e w' => (∃ s : ByteArray, s.toList.isEmpty = false ∧ e = .returned (.string s)) ∧ Below w.heap.size w w' := by
  have c0 := h.c0
  have c1 := h.c1
  have hl := h.lt
  have EN := hide (Errno_any y hy)
  have IT := hide (fun W (hW : Tab W) => Itoa_any (p : Int) (by omega) (by omega) W hW)
  have hil := Lib.itoa_length_le (p : Int) (by omega) (by omega)
  have HB := hide (fun W (hb : Below w.heap.size w W) => (⟨(h.below hb hl).c0, ht.below hb h5⟩ : W.cell? ⟨b, 0, none⟩ = some (.int .i64 (p : Int)) ∧ Tab W))
  go_enter Tryz.func28, Tryz.ntmps28
  go_wp2
  go_region_with (first | (go_at_call 58; refine (unhide EN _).mono ?_; rintro e w1 ⟨⟨s1, hs1, rfl⟩, hb1'⟩; have hb1 := below_of_drew hb1'; have hq1 := unhide HB w1 hb1; obtain ⟨d1, ht1⟩ := hq1) | (go_at_call 27; refine (Where_any _ _).mono ?_; rintro e w2 ⟨rfl, hb2⟩; have hq2 := unhide HB w2 (hb1.trans (hb2.mono hb1.size)); obtain ⟨d2, ht2⟩ := hq2) | (go_at_call 59; refine (unhide IT _ ht2).mono ?_; rintro e w3 ⟨rfl, hb3⟩))
  all_goals
    go_wp2
    go_ret
    exact ⟨⟨_, text_not_empty s1 _, rfl⟩, (hb1.trans (hb2.mono hb1.size)).trans (hb3.mono (Nat.le_trans hb1.size hb2.size))⟩
end Go.Proofs.YthplgkkailieoaaGreatDoor
