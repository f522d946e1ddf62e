/-
  Trees of statements, as data by their depth; how they lie in memory; which are right; their tokens. No walk.
-/
import Derived.Test.YtmpbbmfbgcpplaaGreatDoorQExF
namespace Go.Proofs.YtmpbbmfbgcpplaaGreatDoor
open Go Go.RowKit Lx

/-- a statement that is nested at most m deep, its expressions at most d, its types at most D: place, kind, name, types, expressions, body, other body. -/
def St (D d : Nat) : Nat → Type
  | 0 => Empty
  | m + 1 => Int × Int × Bs × List (Ty D) × List (Ex D d) × List (St D d m) × List (St D d m)
abbrev sAt {D d m : Nat} (s : St D d (m + 1)) : Int := s.1
abbrev sKind {D d m : Nat} (s : St D d (m + 1)) : Int := s.2.1
abbrev sName {D d m : Nat} (s : St D d (m + 1)) : Bs := s.2.2.1
abbrev sT {D d m : Nat} (s : St D d (m + 1)) : List (Ty D) := s.2.2.2.1
abbrev sX {D d m : Nat} (s : St D d (m + 1)) : List (Ex D d) := s.2.2.2.2.1
abbrev sB {D d m : Nat} (s : St D d (m + 1)) : List (St D d m) := s.2.2.2.2.2.1
abbrev sE {D d m : Nat} (s : St D d (m + 1)) : List (St D d m) := s.2.2.2.2.2.2
/-- A slice of statements as it lies. -/
def StRow (W : World) (D d : Nat) : (m : Nat) → Value → List (St D d m) → Prop
  | 0, v, _ => ∃ (p : Option Addr) (c : Nat), v = .slice p 0 c
  | m + 1, v, ss => ∃ (p : Option Addr) (c : Nat), v = .slice p ss.length c ∧ ∀ j s, ss[j]? = some s → ∃ (g o : Nat) (vt vx vb ve : Value), p = some ⟨g, o, none⟩ ∧
      W.cell? ⟨g, o + j * 7, none⟩ = some (.int .i64 (sAt s)) ∧ W.cell? ⟨g, o + j * 7 + 1, none⟩ = some (.int .i64 (sKind s)) ∧ W.cell? ⟨g, o + j * 7 + 2, none⟩ = some (.string ⟨(sName s).toArray⟩) ∧
      W.cell? ⟨g, o + j * 7 + 3, none⟩ = some vt ∧ W.cell? ⟨g, o + j * 7 + 4, none⟩ = some vx ∧ W.cell? ⟨g, o + j * 7 + 5, none⟩ = some vb ∧ W.cell? ⟨g, o + j * 7 + 6, none⟩ = some ve ∧
      TyRow W D vt (sT s) ∧ (ExRow W D d vx (sX s) ∧ ExCap W D d vx (sX s)) ∧ StRow W D d m vb (sB s) ∧ StRow W D d m ve (sE s)
/-- A statement's value as it lies. -/
def StVal (W : World) (D d m : Nat) (v : Value) (s : St D d (m + 1)) : Prop :=
  ∃ (pt px pb pe : Option Addr) (ct cx cb ce : Nat), v = .agg #[.int .i64 (sAt s), .int .i64 (sKind s), .string ⟨(sName s).toArray⟩, .slice pt (sT s).length ct, .slice px (sX s).length cx, .slice pb (sB s).length cb, .slice pe (sE s).length ce] ∧
    TyRow W D (.slice pt (sT s).length ct) (sT s) ∧ (ExRow W D d (.slice px (sX s).length cx) (sX s) ∧ ExCap W D d (.slice px (sX s).length cx) (sX s)) ∧ StRow W D d m (.slice pb (sB s).length cb) (sB s) ∧ StRow W D d m (.slice pe (sE s).length ce) (sE s)
theorem StRow.below {w w' : World} {D d : Nat} (hb : Below w.heap.size w w') : ∀ (m : Nat) {v : Value} {ss : List (St D d m)}, StRow w D d m v ss → StRow w' D d m v ss
  | 0, _, _, h => h
  | m + 1, v, xs, h => by
    obtain ⟨p, c, rfl, hp⟩ := h
    refine ⟨p, c, rfl, fun j t ht => ?_⟩
    obtain ⟨g, o, vt, vx, vb, ve, rfl, a0, a1, a2, a3, a4, a5, a6, r1, ⟨r2, r2'⟩, r3, r4⟩ := hp j t ht
    have hg := cell_at a0
    exact ⟨g, o, vt, vx, vb, ve, rfl, (hb.cell (p := ⟨g, _, none⟩) hg).trans a0, (hb.cell (p := ⟨g, _, none⟩) hg).trans a1, (hb.cell (p := ⟨g, _, none⟩) hg).trans a2, (hb.cell (p := ⟨g, _, none⟩) hg).trans a3, (hb.cell (p := ⟨g, _, none⟩) hg).trans a4, (hb.cell (p := ⟨g, _, none⟩) hg).trans a5, (hb.cell (p := ⟨g, _, none⟩) hg).trans a6, TyRow.below hb D r1, ⟨ExRow.below hb d r2, ExCap.below hb d r2'⟩, StRow.below hb m r3, StRow.below hb m r4⟩
theorem StVal.below {w w' : World} {D d m : Nat} {v : Value} {s : St D d (m + 1)} (h : StVal w D d m v s) (hb : Below w.heap.size w w') : StVal w' D d m v s := by
  obtain ⟨pt, px, pb, pe, ct, cx, cb, ce, rfl, r1, ⟨r2, r2'⟩, r3, r4⟩ := h
  exact ⟨pt, px, pb, pe, ct, cx, cb, ce, rfl, TyRow.below hb D r1, ⟨ExRow.below hb d r2, ExCap.below hb d r2'⟩, StRow.below hb m r3, StRow.below hb m r4⟩
theorem StRow.slice {w : World} {D d : Nat} : ∀ {m : Nat} {v : Value} {ss : List (St D d m)}, StRow w D d m v ss → ∃ (p : Option Addr) (c : Nat), v = .slice p ss.length c
  | 0, _, [], h => h
  | 0, _, t :: _, _ => nomatch t
  | _ + 1, _, _, ⟨p, c, e, _⟩ => ⟨p, c, e⟩
end Go.Proofs.YtmpbbmfbgcpplaaGreatDoor
/-
  shapedStmt of package syntax, walked.
-/
namespace Go.Proofs.YtmpbbmfbgcpplaaGreatDoor
open Go Go.RowKit Lx

end Go.Proofs.YtmpbbmfbgcpplaaGreatDoor
/-
  rightStmt, rightStmts of package syntax, walked.
-/
namespace Go.Proofs.YtmpbbmfbgcpplaaGreatDoor
open Go Go.RowKit Lx

/-- the seven cells of a slice's first expression. -/
theorem ExRow.first {w : World} {D : Nat} : ∀ {d : Nat} {p : Option Addr} {c : Nat} {xs : List (Ex D d)}, ExRow w D d (.slice p xs.length c) xs → ExFits D d xs → 1 ≤ xs.length → Tab w → 4 ≤ w.heap.size → ∃ (g o : Nat) (A' K' N' : Int) (S' : ByteArray) (p1 p2 p3 : Option Addr) (n1 n2 n3 c1 c2 c3 : Nat), p = some ⟨g, o, none⟩ ∧ w.cell? ⟨g, o, none⟩ = some (.int .i64 A') ∧ w.cell? ⟨g, o + 1, none⟩ = some (.int .i64 K') ∧ w.cell? ⟨g, o + 2, none⟩ = some (.int .i64 N') ∧ w.cell? ⟨g, o + 3, none⟩ = some (.string S') ∧ w.cell? ⟨g, o + 4, none⟩ = some (.slice p1 n1 c1) ∧ w.cell? ⟨g, o + 5, none⟩ = some (.slice p2 n2 c2) ∧ w.cell? ⟨g, o + 6, none⟩ = some (.slice p3 n3 c3) ∧
      ∀ W, Below w.heap.size w W → Calls Tryz.prog 54 #[.agg #[.int .i64 A', .int .i64 K', .int .i64 N', .string S', .slice p1 n1 c1, .slice p2 n2 c2, .slice p3 n3 c3], .int .i64 64] W fun e w' => e = .returned (.bool ((xs[0]?.map (rightX D d 64)).getD true)) ∧ Below W.heap.size W w'
  | 0, _, _, [], _, _, h, _, _ => by simp at h
  | 0, _, _, x :: _, _, _, _, _, _ => nomatch x
  | d + 1, p, c, xs, hr, hf, h1, ht, h5 => by
    obtain ⟨p', c', e, hp⟩ := hr
    injection e with e1 e2 e3
    subst e1
    have hk' : xs[0]? = some xs[0] := by simp
    obtain ⟨g, o, vt, vn, vp, rfl, a0, a1, a2, a3, a4, a5, a6, q1, q2, q3⟩ := hp 0 _ hk'
    obtain ⟨f1, f2⟩ := hf.2 _ (List.mem_of_getElem? hk')
    obtain ⟨p1, c1, rfl⟩ := q1.slice
    obtain ⟨p2, c2, rfl, h2⟩ := q2
    obtain ⟨p3, c3, rfl⟩ := q3.slice
    simp only [Nat.zero_mul, Nat.add_zero] at a0 a1 a2 a3 a4 a5 a6
    refine ⟨g, o, _, _, _, _, p1, p2, p3, _, _, _, c1, c2, c3, rfl, a0, a1, a2, a3, a4, a5, a6, fun W hW => ?_⟩
    rw [hk']
    exact rightExpr_any D d _ _ 64 W (ExVal.below (w := w) ⟨p1, p2, p3, c1, c2, c3, rfl, q1, ⟨p2, c2, rfl, h2⟩, q3⟩ hW) f1 f2 (by omega) (by omega) (ht.below hW h5) (by have := hW.size; omega)
end Go.Proofs.YtmpbbmfbgcpplaaGreatDoor
