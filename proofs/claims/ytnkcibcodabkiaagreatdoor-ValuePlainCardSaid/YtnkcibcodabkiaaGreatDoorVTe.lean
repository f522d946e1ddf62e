/-
  (Shapes).Text at values without parts, walked. Own work.
-/
import Derived.Test.YtnkcibcodabkiaaGreatDoorVTx
namespace Go.Proofs.YtnkcibcodabkiaaGreatDoor
open Go Go.RowKit Go.Proofs

theorem WrAt.set2 {b : Nat} {p v c g m : Value} {w : World} (h : WrAt b p v c g m w) (q : Value) : WrAt b p v q g m (w.setCell ⟨b, 2, none⟩ q) := by
  show (w.setCell ⟨b, 2, none⟩ q).heap[b]? = _
  have hlt := h.lt
  simp [World.setCell, Array.getElem?_modify, show w.heap[b]? = _ from h]
theorem WrAt.set3 {b : Nat} {p v c g m : Value} {w : World} (h : WrAt b p v c g m w) (q : Value) : WrAt b p v c q m (w.setCell ⟨b, 3, none⟩ q) := by
  show (w.setCell ⟨b, 3, none⟩ q).heap[b]? = _
  have hlt := h.lt
  simp [World.setCell, Array.getElem?_modify, show w.heap[b]? = _ from h]
theorem WrAt.set4 {b : Nat} {p v c g m : Value} {w : World} (h : WrAt b p v c g m w) (q : Value) : WrAt b p v c g q (w.setCell ⟨b, 4, none⟩ q) := by
  show (w.setCell ⟨b, 4, none⟩ q).heap[b]? = _
  have hlt := h.lt
  simp [World.setCell, Array.getElem?_modify, show w.heap[b]? = _ from h]
theorem store_wr {b : Nat} {p v c g m : Value} {w : World} (h : WrAt b p v c g m w) (j : Nat) (hj : j < 5) (x : Value) (hx : x.oneCell' = true) : (store ⟨b, j, none⟩ x).run Tryz.prog w = .ok () (w.setCell ⟨b, j, none⟩ x) := by
  have hc : ∃ u, w.cell? ⟨b, j, none⟩ = some u := by
    rw [Lib.cell_of_heap h]
    match j, hj with
    | 0, _ => exact ⟨_, rfl⟩
    | 1, _ => exact ⟨_, rfl⟩
    | 2, _ => exact ⟨_, rfl⟩
    | 3, _ => exact ⟨_, rfl⟩
    | 4, _ => exact ⟨_, rfl⟩
  obtain ⟨u, hc⟩ := hc
  have hf := h.frozen j
  rw [run_store Tryz.prog w ⟨b, j, none⟩ _ _ hx]
  simp [hc, hf]
set_option maxHeartbeats 2000000 in
set_option maxRecDepth 100000 in
theorem text_of (S : ByteArray) (k cl N : Int) (sv : ByteArray) (parts c g m : Value) (w : World) (hS : S.size ≤ 4096) (hc1 : c.oneCell' = true) (hg1 : g.oneCell' = true) (hm1 : m.oneCell' = true)
    (WR : ∀ b bv W, WrAt b (.pointer none) (.slice none 0 0) c g m W → W.cell? ⟨bv, 0, none⟩ = some (.int .i64 k) → W.cell? ⟨bv, 2, none⟩ = some (.int .i64 N) → W.cell? ⟨bv, 3, none⟩ = some (.string sv) → Below w.heap.size w W →
      Calls Tryz.prog 94 #[.pointer (some ⟨b, 0, none⟩), .pointer (some ⟨bv, 0, none⟩)] W fun e w' => e = .returned (.tuple #[]) ∧ Wrote b S c g m w' ∧ Below b W w') :
    Calls Tryz.prog 36 #[.agg #[c, g, m], .agg #[.int .i64 k, .int .i64 cl, .int .i64 N, .string sv, parts]] w fun e w' => e = .returned (.tuple #[.string S, .int .i64 0]) ∧ Below w.heap.size w w' := by
  have WR := hide WR
  go_enter Tryz.func36, Tryz.ntmps36
  go_upto_region 1 with fail
  obtain ⟨W2, hW2⟩ : ∃ W2, W2 = (w.alloc (.cells #[c, g, m] 110)).alloc (.cells #[.int .i64 k, .int .i64 cl, .int .i64 N, .string sv, parts] 47) := ⟨_, rfl⟩
  have hsz : W2.heap.size = w.heap.size + 1 + 1 := by rw [hW2]; simp
  have a0 : W2.heap[w.heap.size]? = some (.cells #[c, g, m] 110 (0, 0)) := by rw [hW2, Lib.alloc_old _ _ _ (by simp)]; exact World.alloc_heap_new w _
  have a1 : W2.heap[w.heap.size + 1]? = some (.cells #[.int .i64 k, .int .i64 cl, .int .i64 N, .string sv, parts] 47 (0, 0)) := by
    rw [hW2]
    have := World.alloc_heap_new (w.alloc (.cells #[c, g, m] 110)) (.cells #[.int .i64 k, .int .i64 cl, .int .i64 N, .string sv, parts] 47)
    simpa using this
  have b2 : Below w.heap.size w W2 := by rw [hW2]; exact ((Below.refl _ _).alloc (Nat.le_refl _) _).alloc (by simp) _
  rw [← hW2]
  clear hW2
  have s0 : W2.cell? ⟨w.heap.size, 0, none⟩ = some c := by rw [Lib.cell_of_heap a0]; rfl
  have s1 : W2.cell? ⟨w.heap.size, 1, none⟩ = some g := by rw [Lib.cell_of_heap a0]; rfl
  have s2 : W2.cell? ⟨w.heap.size, 2, none⟩ = some m := by rw [Lib.cell_of_heap a0]; rfl
  have hsz := hide hsz
  have a1 := hide a1
  clear a0
  go_wp2
  obtain ⟨W3, hW3⟩ : ∃ W3, W3 = W2.alloc (.cells #[.pointer none, .slice none 0 0, .pointer none, .pointer none, .map none] 190) := ⟨_, rfl⟩
  have h3 : WrAt (w.heap.size + 1 + 1) (.pointer none) (.slice none 0 0) (.pointer none) (.pointer none) (.map none) W3 := by
    have := World.alloc_heap_new W2 (.cells #[.pointer none, .slice none 0 0, .pointer none, .pointer none, .map none] 190)
    rw [unhide hsz] at this
    rw [hW3]; exact this
  have a3 : W3.heap[w.heap.size + 1]? = some (.cells #[.int .i64 k, .int .i64 cl, .int .i64 N, .string sv, parts] 47 (0, 0)) := by
    rw [hW3, Lib.alloc_old _ _ _ (by rw [unhide hsz]; omega)]; exact unhide a1
  have b3 : Below w.heap.size w W3 := by rw [hW3]; exact b2.alloc (by rw [unhide hsz]; omega) _
  rw [← hW3]
  clear hW3
  have h4 := h3.set2 c
  have h5 := h4.set3 g
  have h6 := h5.set4 m
  rw [store_wr h3 2 (by decide) c hc1]
  simp only [Result.andThen]
  rw [store_wr h4 3 (by decide) g hg1]
  simp only
  rw [store_wr h5 4 (by decide) m hm1]
  simp only
  rw [Oper.upon_skip]
  have hne : w.heap.size + 1 ≠ w.heap.size + 1 + 1 := by omega
  have a6 := (Below.heap_setCell _ ⟨w.heap.size + 1 + 1, 4, none⟩ m _ hne).trans ((Below.heap_setCell _ ⟨w.heap.size + 1 + 1, 3, none⟩ g _ hne).trans ((Below.heap_setCell W3 ⟨w.heap.size + 1 + 1, 2, none⟩ c _ hne).trans a3))
  have b6 := (((b3.setCell (p := ⟨w.heap.size + 1 + 1, 2, none⟩) (by show _ ≤ w.heap.size + 1 + 1; omega) c).setCell (p := ⟨w.heap.size + 1 + 1, 3, none⟩) (by show _ ≤ w.heap.size + 1 + 1; omega) g).setCell (p := ⟨w.heap.size + 1 + 1, 4, none⟩) (by show _ ≤ w.heap.size + 1 + 1; omega) m)
  generalize ((W3.setCell ⟨w.heap.size + 1 + 1, 2, none⟩ c).setCell ⟨w.heap.size + 1 + 1, 3, none⟩ g).setCell ⟨w.heap.size + 1 + 1, 4, none⟩ m = W6 at h6 a6 b6 ⊢
  clear h3 h4 h5 a3 b3 a1 hne b2 s0 s1 s2
  have WW := hide (unhide WR (w.heap.size + 1 + 1) (w.heap.size + 1) W6 h6 (by rw [Lib.cell_of_heap a6]; rfl) (by rw [Lib.cell_of_heap a6]; rfl) (by rw [Lib.cell_of_heap a6]; rfl) b6)
  have hlt6 := h6.lt
  clear WR h6 a6
  go_wp2_with (go_at_call 94; refine (unhide WW).mono ?_)
  clear WW
  rintro e W7 ⟨rfl, ⟨v, hv, how, hz⟩, hb7⟩
  have ST := hide (wr_told (w.heap.size + 1 + 1) _ v c g m S (w.heap.size + 1 + 1 + 1) W7 hv how hz)
  obtain ⟨ao, cap, rfl⟩ : ∃ ao cap, v = .slice ao S.size cap := by
    rcases how.2 with ⟨hv0, h0⟩ | ⟨q, cap, cur, hv0, r⟩
    · exact ⟨none, 0, by rw [hv0, h0]⟩
    · exact ⟨_, _, hv0⟩
  have FU := hide (wr_full (w.heap.size + 1 + 1) _ c g m ao S.size cap W7 hv)
  have hno : decide ((4096 : Int) < S.size) = false := by simp; omega
  rw [hno] at FU
  clear hv how hz hno
  go_wp2_with (go_at_call 95; refine (unhide FU).mono ?_)
  clear FU
  rintro e W8 ⟨rfl, rfl⟩
  go_wp2_with (go_at_call 96; refine (unhide ST).mono ?_)
  clear ST
  rintro e W9 ⟨rfl, hb9⟩
  go_wp2
  go_ret2
  exact ⟨rfl, (b6.trans (hb7.mono (by omega))).trans (hb9.mono (by omega))⟩
/-- an int's text. -/
theorem text_int (n cl : Int) (parts c g m : Value) (w : World) (n0 : -9223372036854775808 ≤ n) (n1 : n ≤ 9223372036854775807) (ht : PowTab w) (hl : 0 < w.heap.size) (hc1 : c.oneCell' = true) (hg1 : g.oneCell' = true) (hm1 : m.oneCell' = true) :
    Calls Tryz.prog 36 #[.agg #[c, g, m], .agg #[.int .i64 1, .int .i64 cl, .int .i64 n, .string .empty, parts]] w fun e w' => e = .returned (.tuple #[.string ⟨(Lib.itoa n).toArray⟩, .int .i64 0]) ∧ Below w.heap.size w w' := by
  have hil := Lib.itoa_length_le n n0 n1
  exact text_of _ 1 cl n .empty parts c g m w (by have : (⟨(Lib.itoa n).toArray⟩ : ByteArray).size = (Lib.itoa n).length := rfl; omega) hc1 hg1 hm1 fun b bv W h h0 h2 h3 hb => write_int b bv n c g m W h h0 h2 n0 n1 (var?_below hb pow_global hl ht) (Nat.lt_of_lt_of_le hl hb.size)
theorem text_bool (n : Int) (q : Bool) (hq : (n == 1) = q) (cl : Int) (parts c g m : Value) (w : World) (hc1 : c.oneCell' = true) (hg1 : g.oneCell' = true) (hm1 : m.oneCell' = true) :
    Calls Tryz.prog 36 #[.agg #[c, g, m], .agg #[.int .i64 2, .int .i64 cl, .int .i64 n, .string .empty, parts]] w fun e w' => e = .returned (.tuple #[.string (boolS q), .int .i64 0]) ∧ Below w.heap.size w w' :=
  text_of _ 2 cl n .empty parts c g m w (by cases q <;> decide) hc1 hg1 hm1 fun b bv W h h0 h2 h3 hb => write_bool b bv n q c g m W h h0 h2 hq
theorem text_text (s : ByteArray) (hs : s.size ≤ 4096) (cl : Int) (parts c g m : Value) (w : World) (hc1 : c.oneCell' = true) (hg1 : g.oneCell' = true) (hm1 : m.oneCell' = true) :
    Calls Tryz.prog 36 #[.agg #[c, g, m], .agg #[.int .i64 3, .int .i64 cl, .int .i64 0, .string s, parts]] w fun e w' => e = .returned (.tuple #[.string s, .int .i64 0]) ∧ Below w.heap.size w w' :=
  text_of _ 3 cl 0 s parts c g m w hs hc1 hg1 hm1 fun b bv W h h0 h2 h3 hb => write_text b bv s c g m W h h0 h3 (by omega)
end Go.Proofs.YtnkcibcodabkiaaGreatDoor
