/-
  coillaw1.says, walked; tokens as they lie.
-/
import Derived.Test.YthplgkkailieoaaGreatDoorRefused2
namespace Go.Proofs.YthplgkkailieoaaGreatDoor
open Go Go.RowKit Lx

theorem allCells_at : ∀ (ts : List Tok) (j : Nat) (t : Tok) (i : Nat) (u : Value), ts[j]? = some t → (tokCells t)[i]? = some u → (allCells ts)[j * 4 + i]? = some u
  | [], j, t, i, u, h, _ => by simp at h
  | x :: r, 0, t, i, u, h, hu => by
    simp at h; subst h
    have hi : i < (tokCells x).length := (List.getElem?_eq_some_iff.1 hu).1
    show (tokCells x ++ allCells r)[0 * 4 + i]? = some u
    rw [show 0 * 4 + i = i from by omega, List.getElem?_append_left hi]; exact hu
  | x :: r, j + 1, t, i, u, h, hu => by
    have ih := allCells_at r j t i u (by simpa using h) hu
    show (tokCells x ++ allCells r)[(j + 1) * 4 + i]? = some u
    rw [List.getElem?_append_right (by simp [tokCells]; omega)]
    rw [show (j + 1) * 4 + i - (tokCells x).length = j * 4 + i from by simp [tokCells]; omega]
    exact ih
theorem addr_add (g k : Nat) : (⟨g, 0, none⟩ : Addr).add k = ⟨g, k, none⟩ := by
  by_cases h : k = 0
  · subst h; rfl
  · simp [Addr.add, h]
theorem TokRow.of_owns {W : World} {base : Nat} {v : Value} {ts : List Tok} (h : W.ownsRow base 40 4 v ts.length (allCells ts)) : TokRow W v ts := by
  rcases h.2 with ⟨rfl, h0⟩ | ⟨g, cap, cur, rfl, hg, r⟩
  · refine ⟨none, 0, by rw [h0], fun j t ht => ?_⟩
    rw [List.eq_nil_of_length_eq_zero h0] at ht; simp at ht
  · refine ⟨some ⟨g, 0, none⟩, cap, rfl, fun j t ht => ⟨g, 0, rfl, ?_, ?_, ?_, ?_⟩⟩
    · have := h.cells (g := g) rfl (j * 4 + 0) _ (allCells_at ts j t 0 _ ht rfl); rw [addr_add] at this; simpa [Nat.add_assoc] using this
    · have := h.cells (g := g) rfl (j * 4 + 1) _ (allCells_at ts j t 1 _ ht rfl); rw [addr_add] at this; simpa [Nat.add_assoc] using this
    · have := h.cells (g := g) rfl (j * 4 + 2) _ (allCells_at ts j t 2 _ ht rfl); rw [addr_add] at this; simpa [Nat.add_assoc] using this
    · have := h.cells (g := g) rfl (j * 4 + 3) _ (allCells_at ts j t 3 _ ht rfl); rw [addr_add] at this; simpa [Nat.add_assoc] using this
/-- A slice of tokens written out. -/
theorem TokRow.of_new (w : World) (ts : List Tok) (c : Nat) (a : Array Value) (ha : a = (allCells ts).toArray) : TokRow (w.alloc (.cells a 40)) (.slice (some ⟨w.heap.size, 0, none⟩) ts.length c) ts := by
  subst ha
  have cell : ∀ (i : Nat) (u : Value), (allCells ts)[i]? = some u → (w.alloc (.cells (allCells ts).toArray 40)).cell? ⟨w.heap.size, i, none⟩ = some u := by
    intro i u h
    rw [World.cell?_alloc_at _ _ _ _ (by rfl)]
    simpa using h
  refine ⟨_, c, rfl, fun j t ht => ⟨w.heap.size, 0, rfl, ?_, ?_, ?_, ?_⟩⟩
  · simpa using cell _ _ (allCells_at ts j t 0 _ ht rfl)
  · simpa [Nat.add_assoc] using cell _ _ (allCells_at ts j t 1 _ ht rfl)
  · simpa [Nat.add_assoc] using cell _ _ (allCells_at ts j t 2 _ ht rfl)
  · simpa [Nat.add_assoc] using cell _ _ (allCells_at ts j t 3 _ ht rfl)
theorem TokRow.nil (w : World) : TokRow w (.slice none 0 0) [] := ⟨none, 0, rfl, fun j t ht => by simp at ht⟩

set_option maxHeartbeats 1000000 in
set_option maxRecDepth 100000 in
theorem says_any (s : ByteArray) (v : Value) (ts : List Tok) (w : World) (hs : s.size ≤ 140737488355328) (hl : ts.length ≤ 1000000) (hx : lex s.data.toList = (ts, none)) (hv : TokRow w v ts) :
    Calls Tryz.prog 32 #[.string s, v] w fun e w' => e = .returned (.bool true) ∧ Below w.heap.size w w' := by
  have TK : Hid (Calls Tryz.prog 8 #[.string s] w fun e w' => ∃ u, e = .returned (.tuple #[u, .nilIface]) ∧ TokRow w' u ts ∧ Below w.heap.size w w') := by
    refine (Tokens_any s hs w).mono ?_
    rintro e w' ⟨hb, h⟩
    rw [hx] at h
    obtain ⟨u, rfl, ho⟩ := h
    exact ⟨u, rfl, TokRow.of_owns ho, hb⟩
  have HV := hide hv
  clear hx hv
  go_enter Tryz.func32, Tryz.ntmps32
  go_wp2_with (first | (go_at_call 8; refine (unhide TK).mono ?_; rintro e w1 ⟨u, rfl, hu, hb1⟩; have ST := hide (SameTok_any u v ts w1 hl hu ((unhide HV).below hb1))) | (go_at_call 10; refine (unhide ST).mono ?_; rintro e w2 ⟨rfl, hb2⟩))
  go_ret
  exact ⟨rfl, hb1.trans (hb2.mono hb1.size)⟩
end Go.Proofs.YthplgkkailieoaaGreatDoor
