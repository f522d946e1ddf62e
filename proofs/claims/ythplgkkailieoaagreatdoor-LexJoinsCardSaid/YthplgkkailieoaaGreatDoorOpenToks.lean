/-
  An argument that is a slice of tokens, opened.
-/
import Derived.Test.YthplgkkailieoaaGreatDoorLaid
import Derived.Test.YthplgkkailieoaaGreatDoorJoinF
import Derived.Deep.Slices
namespace Go.Proofs.YthplgkkailieoaaGreatDoor
open Go Go.ChangeShapes Go.WideShapes Go.ChangeAt Go.RowKit Go.Deep Lx

theorem cells_tok : Tryz.prog.cellsOf 40 = 4 := by kernel_rfl
set_option maxRecDepth 100000 in
theorem open_tok {H : Type} {enc : TypeId × Value → H} {W : World} {base n : Nat} {sp : Nat → Bool} {held : Bool} {cs : List Value} {x : DataW H × List MemPlace} (h : DataW.trod enc Tryz.prog W base sp held n 40 cs = some x) :
    ∃ (z k v : Int) (s : ByteArray), cs = [.int .i64 z, .int .i64 k, .string s, .int .i64 v] ∧ s.size ≤ maxLen ∧ (Lit.int .i64 v).wf = true := by
  obtain ⟨xs, m, _, _, hl, hxl, hf⟩ := DataW.trod_struct Tryz.underlying40 h
  rw [cells_tok] at hl
  match cs, hl with
  | [c0, c1, c2, c3], _ =>
    have hx : xs.length = 4 := hxl
    match xs, hx with
    | [y0, y1, y2, y3], _ =>
      have g0 := hf 0 _ rfl
      have g1 := hf 1 _ rfl
      have g2 := hf 2 _ rfl
      have g3 := hf 3 _ rfl
      simp only [List.getElem?_cons_zero, List.getElem?_cons_succ] at g0 g1 g2 g3
      obtain ⟨ys, m', _, _, _, hyl, hf0⟩ := DataW.trod_struct Tryz.underlying38 g0
      have hy : ys.length = 1 := hyl
      match ys, hy with
      | [y00], _ =>
        have g00 := hf0 0 _ rfl
        simp only [List.getElem?_cons_zero] at g00
        obtain ⟨z, e0, _, _⟩ := DataW.trod_int Tryz.underlying3 g00
        obtain ⟨k, e1, _, _⟩ := DataW.trod_int Tryz.underlying3 g1
        obtain ⟨s, e2, _, w2⟩ := DataW.trod_string Tryz.underlying9 g2
        obtain ⟨v, e3, _, w3⟩ := DataW.trod_int Tryz.underlying3 g3
        cases e0; cases e1; cases e2; cases e3
        exact ⟨z, k, v, s, rfl, w2, w3⟩
set_option maxRecDepth 100000 in
theorem open_toks {H : Type} {enc : TypeId × Value → H} {W : World} {a : Option Addr} {len cap : Nat} {d : DataW H} {ps : List MemPlace}
    (h : DataW.Trod enc Tryz.prog W 0 (fun _ => true) true 28 (.slice a len cap) d ps) :
    ∃ ts : List Lx.Tok, TokAny W (.slice a len cap) ts ∧ ts.length ≤ 9223372036854775807 ∧ (∀ t ∈ ts, t.2.2.1.length ≤ 9223372036854775807) ∧ (∀ t ∈ ts, -9223372036854775808 ≤ t.2.2.2 ∧ t.2.2.2 ≤ 9223372036854775807) := by
  obtain ⟨fuel, hf⟩ := h
  rcases open_slice Tryz.underlying28 hf with ⟨hcs, _⟩ | ⟨a', len', cap', m, n, D, Pl, hcs, _, hl, hm, hmm, _, hx⟩
  · simp [Value.cells] at hcs
    obtain ⟨rfl, rfl, rfl⟩ := hcs
    exact ⟨[], ⟨none, 0, rfl, fun j t ht => by simp at ht⟩, by simp, by simp, by simp⟩
  · simp [Value.cells] at hcs
    obtain ⟨rfl, rfl, rfl⟩ := hcs
    simp only [if_true] at hmm
    have each : ∀ i, i < len → ∃ q : Int × Lx.Tok, W.cell? (a'.add (i * 4)) = some (.int .i64 q.1) ∧ W.cell? (a'.add (i * 4 + 1)) = some (.int .i64 q.2.2.1) ∧ W.cell? (a'.add (i * 4 + 2)) = some (.string ⟨q.2.2.2.1.toArray⟩) ∧ W.cell? (a'.add (i * 4 + 3)) = some (.int .i64 q.2.2.2.2) ∧
        q.2.2.2.1.length ≤ 9223372036854775807 ∧ -9223372036854775808 ≤ q.2.2.2.2 ∧ q.2.2.2.2 ≤ 9223372036854775807 := by
      intro i hi
      obtain ⟨cs', h1, h2⟩ := hx i (by omega)
      rw [cells_tok] at h1
      obtain ⟨_, hlen, hcell⟩ := World.cells?_some h1
      obtain ⟨z, k, v, s, rfl, w2, w3⟩ := open_tok h2
      have c0 := hcell 0 (by omega)
      have c1 := hcell 1 (by omega)
      have c2 := hcell 2 (by omega)
      have c3 := hcell 3 (by omega)
      rw [add_add] at c0 c1 c2 c3
      have hs : s.data.toList.length ≤ 9223372036854775807 := by rw [len_data]; unfold maxLen at w2; omega
      exact ⟨(z, 0, k, s.data.toList, v), by simpa using c0, by simpa using c1, by simpa using c2, by simpa using c3, hs, (bounds_i64 w3).1, (bounds_i64 w3).2⟩
    obtain ⟨q, hq⟩ := choose_lt each
    refine ⟨(List.range len).map fun i => (q i).2, ⟨some a', cap, by simp, fun j t ht => ?_⟩, by unfold maxLen at hm; simp; omega, fun t ht => ?_, fun t ht => ?_⟩
    · rw [List.getElem?_map] at ht
      have hj : j < len := by
        rcases Nat.lt_or_ge j len with h | h
        · exact h
        · rw [List.getElem?_eq_none (by simpa using h)] at ht; cases ht
      rw [List.getElem?_range hj] at ht
      obtain rfl : (q j).2 = t := by simpa using ht
      obtain ⟨c0, c1, c2, c3, _⟩ := hq j hj
      obtain ⟨c00, _⟩ := hq 0 (by omega)
      obtain ⟨b, o, sp⟩ := a'
      obtain rfl : sp = none := by simpa [Addr.add] using World.cell?_spot c00
      rw [Go.WideShapes.add_plain] at c0 c1 c2 c3
      exact ⟨b, o, (q j).1, rfl, c0, by simpa [Nat.add_assoc] using c1, by simpa [Nat.add_assoc] using c2, by simpa [Nat.add_assoc] using c3⟩
    · obtain ⟨i, hi, rfl⟩ := List.mem_map.1 ht
      exact (hq i (List.mem_range.1 hi)).2.2.2.2.1
    · obtain ⟨i, hi, rfl⟩ := List.mem_map.1 ht
      exact (hq i (List.mem_range.1 hi)).2.2.2.2.2
end Go.Proofs.YthplgkkailieoaaGreatDoor
