/-
  coillaw1.refused at a refusal's own place and number, walked.
-/
import Derived.Test.YthplgkkailieoaaGreatDoorRefused
namespace Go.Proofs.YthplgkkailieoaaGreatDoor
open Go Go.RowKit

theorem ErrType.below {B : Nat} {w w' : World} (h : ErrType w) (hb : Below B w w') (hB : 5 ≤ B) : ErrType w' := (hb.cell (p := ⟨0, 0, none⟩) (show 0 < B by omega)).trans h

set_option maxHeartbeats 2000000 in
set_option maxRecDepth 100000 in
theorem refused_any (b p y : Nat) (hy : LexNo y) (hp : p ≤ 140737488355328) (w : World) (h : RefAt b p y w) (hg : ErrType w) (ht : Tab w) (h5 : 5 ≤ w.heap.size) :
    Calls Tryz.prog 9 #[.iface 64 (.pointer (some ⟨b, 0, none⟩)), .int .i64 (p : Int), .int .i64 (y : Int)] w fun e w' => e = .returned (.bool true) ∧ Below w.heap.size w w' := by
  have hl := h.lt
  have hba : Below w.heap.size w (w.alloc (.cells #[.pointer none] 64)) := (Below.refl _ _).alloc (Nat.le_refl _) _
  have AS := hide (as_hit ⟨b, 0, none⟩ w.heap.size (.pointer none) (w.alloc (.cells #[.pointer none] 64)) (hg.below hba h5) (Boxed.new w _ _) (by omega))
  have FF := hide (fun W (hb : Below w.heap.size w W) => (⟨h.below hb hl, ht.below hb h5⟩ : RefAt b p y W ∧ Tab W))
  have WH := hide (Where_any (p : Int))
  have ER := hide (fun W (hr : RefAt b p y W) (hT : Tab W) (h5' : 5 ≤ W.heap.size) => Error_any b p y hy hp W hr hT h5')
  have IS := hide (fun W hc => is_hit b (y : Int) W hc)
  clear h hg ht
  go_enter Tryz.func9, Tryz.ntmps9
  go_wp2_with (first
    | (go_at_call 26; refine (unhide AS).mono ?_; rintro e w1 ⟨rfl, hx1, hb1'⟩; have hb1 := hba.trans hb1'; obtain ⟨hr1, ht1⟩ := unhide FF w1 hb1; have a0 := hr1.c0; have a1 := hr1.c1; have bx := hx1.cell; have z1 := hx1.lt)
    | (go_at_call 27; refine (unhide WH _).mono ?_; rintro e w2 ⟨rfl, hb2⟩; have hx2 : Boxed w2 w.heap.size 64 (.pointer (some ⟨b, 0, none⟩)) := (hb2.block _ z1).trans hx1; have hb12 := hb1.trans (hb2.mono hb1.size); obtain ⟨hr2, ht2⟩ := unhide FF w2 hb12; have c0 := hr2.c0; have c1 := hr2.c1; have bx2 := hx2.cell; have z2 := hx2.lt)
    | (go_at_call 28; refine (unhide ER _ hr2 ht2 (by omega)).mono ?_; rintro e w3 ⟨⟨s, hs, rfl⟩, hb3⟩; have hx3 : Boxed w3 w.heap.size 64 (.pointer (some ⟨b, 0, none⟩)) := (hb3.block _ z2).trans hx2; have hb13 := hb12.trans (hb3.mono hb12.size); obtain ⟨hr3, ht3⟩ := unhide FF w3 hb13; have d0 := hr3.c0; have d1 := hr3.c1; have bx3 := hx3.cell)
    | (go_at_call 29; refine (unhide IS _ d1).mono ?_; rintro e w4 ⟨rfl, rfl⟩))
  go_ret
  exact ⟨rfl, hb13⟩
end Go.Proofs.YthplgkkailieoaaGreatDoor
