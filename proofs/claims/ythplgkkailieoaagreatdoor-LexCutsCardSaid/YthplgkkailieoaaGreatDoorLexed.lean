/-
  Tokens at a text that is cut, and at one that is refused, in the words that the laws' walks want; Join and LexRuns likewise.
-/
import Derived.Test.YthplgkkailieoaaGreatDoorRuns
import Derived.Test.YthplgkkailieoaaGreatDoorLaws6
namespace Go.Proofs.YthplgkkailieoaaGreatDoor
open Go Go.RowKit Lx

theorem Tokens_ok (s : ByteArray) (ts : List Tok) (w : World) (hs : s.size ≤ 140737488355328) (hx : lex s.data.toList = (ts, none)) :
    Calls Tryz.prog 8 #[.string s] w fun e w' => ∃ v, e = .returned (.tuple #[v, .nilIface]) ∧ TokRow w' v ts ∧ Below w.heap.size w w' := by
  refine (Tokens_any s hs w).mono ?_
  rintro e w' ⟨hb, h⟩
  rw [hx] at h
  obtain ⟨v, rfl, ho⟩ := h
  exact ⟨v, rfl, TokRow.of_owns ho, hb⟩
theorem Tokens_no (s : ByteArray) (p y : Nat) (w : World) (hs : s.size ≤ 140737488355328) (hx : (lex s.data.toList).2 = some (p, y)) :
    Calls Tryz.prog 8 #[.string s] w fun e w' => ∃ b, e = .returned (.tuple #[.slice none 0 0, .iface 64 (.pointer (some ⟨b, 0, none⟩))]) ∧ RefAt b p y w' ∧ Below w.heap.size w w' := by
  refine (Tokens_any s hs w).mono ?_
  rintro e w' ⟨hb, h⟩
  rw [hx] at h
  obtain ⟨b, rfl, _, hr⟩ := h
  exact ⟨b, rfl, hr, hb⟩
theorem TokRow.below1 {w w' : World} {o : Obj} {v : Value} {ts : List Tok} (h : TokRow w v ts) (hb : Below (w.alloc o).heap.size (w.alloc o) w') : TokRow w' v ts := (h.below ((Below.refl _ _).alloc (Nat.le_refl _) o)).below hb
theorem Runs_b {w0 : World} (w : World) (hb : Below w0.heap.size w0 w) (hg : ErrType w0) (ht : Tab w0) (h5 : 5 ≤ w0.heap.size) : Calls Tryz.prog 16 #[] w fun e w' => e = .returned (.bool true) ∧ Below w.heap.size w w' :=
  LexRuns_any w (hg.below hb h5) (ht.below hb h5) (Nat.le_trans h5 hb.size)
theorem Join_b {w0 : World} (v : Value) (ts : List Tok) (w : World) (a : Value) (hv : TokRow w v ts) (hl : ts.length ≤ 1000000) (hF : Fits ts) (hb : Below w0.heap.size w0 w) (ht : Tab w0) (h5 : 5 ≤ w0.heap.size) (ha : joinAns (join ts) = a) :
    Calls Tryz.prog 20 #[v] w fun e w' => e = .returned a ∧ Below w.heap.size w w' := Join_w v ts w a hv hl hF (ht.below hb h5) (Nat.le_trans h5 hb.size) ha
end Go.Proofs.YthplgkkailieoaaGreatDoor
