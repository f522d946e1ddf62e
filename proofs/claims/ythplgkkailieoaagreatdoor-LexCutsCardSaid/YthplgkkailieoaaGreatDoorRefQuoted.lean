/-
  Towards coilref1.quoted: bytes of the call's own as a string; a text's steps. (The walk itself isn't here yet.)
-/
import Derived.Test.YthplgkkailieoaaGreatDoorRefName
import Derived.OwnWalk
import Derived.Laws.IdiomStrings
import Derived.Laws.OwnMore
import Derived.Lib.BufferRead
namespace Go.Proofs.YthplgkkailieoaaGreatDoor
open Go Go.RowKit Lx

theorem rinfo_u8 : (Tryz.prog.info? 5).map (fun i => (i.zero, i.size, i.bytes)) = some (some (.int .u8 0), 1, 1) := by kernel_rfl
theorem owns_bytes_back {W : World} {B : Nat} {v : Value} {n : Nat} {l : Bs} (h : W.ownsRow B 5 1 v n (Lib.byteCells l)) :
    (convert 83 9 v).run Tryz.prog W = .ok (.string ⟨l.toArray⟩) W := by
  have hn : l.length = n := by have := h.1; rw [Lib.byteCells_length] at this; omega
  rcases h.2 with ⟨rfl, h0⟩ | ⟨g, cap, cur, rfl, _⟩
  · have : l = [] := List.eq_nil_of_length_eq_zero (by omega)
    subst this
    exact Lib.run_convert_nil_bytes (P := Tryz.prog) W 83 9 5 0 Tryz.underlying83 Tryz.underlying5 Tryz.underlying9
  · have := run_convert_bytes_back (P := Tryz.prog) W 83 9 5 ⟨g, 0, none⟩ cap l Tryz.underlying83 Tryz.underlying5 Tryz.underlying9 (fun j hj => by
      rw [addr_add, h.cellAt j (by omega)]
      simp [Lib.byteCells, hj])
    rw [hn] at this
    exact this
/-- one step of a text. -/
theorem text_bad_end (i : Nat) (acc : Bs) : textF [] i acc = .inl i := by rw [textF.eq_def]
theorem text_bad_esc (i : Nat) (acc : Bs) : textF [92] i acc = .inl (i + 1) := by
  rw [textF.eq_def]; simp only; rw [if_neg (by decide), if_pos trivial]
theorem text_bad_esc2 (d : UInt8) (r : Bs) (i : Nat) (acc : Bs) (h : escOk (d.toNat : Int) = false) : textF (92 :: d :: r) i acc = .inl (i + 1) := by
  rw [textF.eq_def]; simp only; rw [if_neg (by decide), if_pos trivial, if_neg (by rw [h]; decide)]
theorem text_bad (c : UInt8) (r : Bs) (i : Nat) (acc : Bs) (h34 : c ≠ 34) (h92 : c ≠ 92) (h : plainB (c.toNat : Int) = false) : textF (c :: r) i acc = .inl i := by
  rw [textF.eq_def]; simp only; rw [if_neg h34, if_neg h92, if_neg (by rw [h]; decide)]
end Go.Proofs.YthplgkkailieoaaGreatDoor
