/-
  Join of package lex, walked, at tokens of whatever places.
-/
import Derived.Test.YtmpbbmfbgcpplaaGreatDoorQLexC
namespace Go.Proofs.YtmpbbmfbgcpplaaGreatDoor
open Go Go.RowKit Lx

/-- A slice of tokens as it lies, whatever their places. -/
def TokAny (W : World) (v : Value) (ts : List Tok) : Prop :=
  ∃ (p : Option Addr) (c : Nat), v = .slice p ts.length c ∧ ∀ j t, ts[j]? = some t → ∃ (g o : Nat) (z : Int), p = some ⟨g, o, none⟩ ∧
    W.cell? ⟨g, o + j * 4, none⟩ = some (.int .i64 z) ∧ W.cell? ⟨g, o + j * 4 + 1, none⟩ = some (.int .i64 t.2.1) ∧
    W.cell? ⟨g, o + j * 4 + 2, none⟩ = some (.string ⟨t.2.2.1.toArray⟩) ∧ W.cell? ⟨g, o + j * 4 + 3, none⟩ = some (.int .i64 t.2.2.2)
theorem TokAny.below {w w' : World} {v : Value} {ts : List Tok} (h : TokAny w v ts) (hb : Below w.heap.size w w') : TokAny w' v ts := by
  obtain ⟨p, c, rfl, hp⟩ := h
  refine ⟨p, c, rfl, fun j t ht => ?_⟩
  obtain ⟨g, o, z, rfl, a0, a1, a2, a3⟩ := hp j t ht
  have hg := cell_lt a0
  exact ⟨g, o, z, rfl, (hb.cell (p := ⟨g, _, none⟩) hg).trans a0, (hb.cell (p := ⟨g, _, none⟩) hg).trans a1, (hb.cell (p := ⟨g, _, none⟩) hg).trans a2, (hb.cell (p := ⟨g, _, none⟩) hg).trans a3⟩
theorem TokRow.any {w : World} {v : Value} {ts : List Tok} (h : TokRow w v ts) : TokAny w v ts := by
  obtain ⟨p, c, rfl, hp⟩ := h
  refine ⟨p, c, rfl, fun j t ht => ?_⟩
  obtain ⟨g, o, rfl, a⟩ := hp j t ht
  exact ⟨g, o, _, rfl, a⟩
end Go.Proofs.YtmpbbmfbgcpplaaGreatDoor
