/-
  Rows of slices of the call's own, from whatever place on: one more behind them, one less ahead of them.
-/
import Derived.Test.YthplgkkailieoaaGreatDoorRoundQuiet
import Derived.Test.YthplgkkailieoaaGreatDoorSame
import Derived.ArgAppend
import Derived.Laws.OwnMore
namespace Go.Proofs.YthplgkkailieoaaGreatDoor
open Go Go.RowKit Lx

theorem info_row : (Tryz.prog.info? 28).map (fun i => (i.zero, i.size, i.bytes)) = some (some (.slice none 0 0), 1, 24) := by kernel_rfl
/-- A slice of slices that owns its row from a place on. -/
def OwnOff (W : World) (B : Nat) (v : Value) (xs : List Value) : Prop :=
  (v = .slice none 0 0 ∧ xs = []) ∨ ∃ g o cap cur, v = .slice (some ⟨g, o, none⟩) xs.length cap ∧ B ≤ g ∧ W.heap[g]? = some (.cells cur 28 (0, 0)) ∧ xs.length ≤ cap ∧ cap ≤ maxLen ∧ cur.size = o + cap ∧ (cur.toList.drop o).take xs.length = xs
theorem OwnOff.of_owns {W : World} {B B' : Nat} {v : Value} {xs : List Value} (h : W.ownsRow B' 28 1 v xs.length xs) (hB : B ≤ B') : OwnOff W B v xs := by
  rcases h.2 with ⟨rfl, h0⟩ | ⟨g, cap, cur, rfl, hb, hg, hn, hm, hs, ht⟩
  · exact .inl ⟨rfl, List.eq_nil_of_length_eq_zero h0⟩
  · exact .inr ⟨g, 0, cap, cur, rfl, by omega, hg, hn, hm, by omega, by simpa using ht⟩
theorem OwnOff.shape {W : World} {B : Nat} {v : Value} {xs : List Value} (h : OwnOff W B v xs) : ∃ p c, v = .slice p xs.length c := by
  rcases h with ⟨rfl, rfl⟩ | ⟨g, o, cap, cur, rfl, _⟩
  · exact ⟨none, 0, rfl⟩
  · exact ⟨_, _, rfl⟩
theorem OwnOff.lt {W : World} {B : Nat} {v : Value} {xs : List Value} (h : OwnOff W B v xs) : ∀ k, v.ownBlock = some k → B ≤ k ∧ k < W.heap.size := by
  intro k hk
  rcases h with ⟨rfl, _⟩ | ⟨g, o, cap, cur, rfl, hb, hg, _⟩
  · simp [Value.ownBlock] at hk
  · obtain rfl : g = k := by simpa [Value.ownBlock] using hk
    exact ⟨hb, (Array.getElem?_eq_some_iff.1 hg).1⟩
theorem OwnOff.cellAt {W : World} {B g o n cap : Nat} {xs : List Value} (h : OwnOff W B (.slice (some ⟨g, o, none⟩) n cap) xs) (j : Nat) (hj : j < xs.length) : W.cell? ⟨g, o + j, none⟩ = some xs[j] := by
  rcases h with ⟨h, _⟩ | ⟨g', o', cap', cur, e, _, hg, _, _, hs, ht⟩
  · cases h
  · simp only [Value.slice.injEq, Option.some.injEq, Addr.mk.injEq, and_true] at e
    obtain ⟨⟨rfl, rfl⟩, _, rfl⟩ := e
    have hx : xs[j]? = some xs[j] := by simp
    revert hx
    generalize xs[j] = x
    intro hx
    have e2 := congrArg (fun l => l[j]?) ht
    simp only [List.getElem?_take, if_pos hj, List.getElem?_drop, hx] at e2
    simp only [World.cell?, hg]
    simpa using e2
/-- What keeps the block keeps the row. -/
theorem OwnOff.kept {W W' : World} {B : Nat} {v : Value} {xs : List Value} (h : OwnOff W B v xs) (hk : ∀ k, v.ownBlock = some k → W'.heap[k]? = W.heap[k]?) : OwnOff W' B v xs := by
  rcases h with ⟨rfl, rfl⟩ | ⟨g, o, cap, cur, rfl, hb, hg, r⟩
  · exact .inl ⟨rfl, rfl⟩
  · exact .inr ⟨g, o, cap, cur, rfl, hb, (hk g rfl).trans hg, r⟩
/-- The head goes. -/
theorem OwnOff.tail {W : World} {B g o n cap : Nat} {x : Value} {xs : List Value} (h : OwnOff W B (.slice (some ⟨g, o, none⟩) n cap) (x :: xs)) : OwnOff W B (.slice (some ⟨g, o + 1, none⟩) xs.length (cap - 1)) xs := by
  rcases h with ⟨h, _⟩ | ⟨g', o', cap', cur, e, hb, hg, hn, hm, hs, ht⟩
  · cases h
  · simp only [Value.slice.injEq, Option.some.injEq, Addr.mk.injEq, and_true] at e
    obtain ⟨⟨rfl, rfl⟩, _, rfl⟩ := e
    simp only [List.length_cons] at hn ht
    refine .inr ⟨g, o + 1, cap - 1, cur, rfl, hb, hg, by omega, by omega, by omega, ?_⟩
    have hd : cur.toList.drop (o + 1) = (cur.toList.drop o).drop 1 := by rw [List.drop_drop]
    rw [hd]
    revert ht
    generalize cur.toList.drop o = l
    intro ht
    cases l with
    | nil => simp at ht
    | cons y r =>
      rw [List.take_succ_cons] at ht
      injection ht
theorem take_set_snoc (l : List Value) (o n : Nat) (u : Value) (h : o + n < l.length) : ((l.set (o + n) u).drop o).take (n + 1) = (l.drop o).take n ++ [u] := by
  apply List.ext_getElem?
  intro j
  rcases Nat.lt_or_ge j n with hj | hj
  · rw [List.getElem?_append_left (by rw [List.length_take, List.length_drop]; omega), List.getElem?_take, if_pos (by omega), List.getElem?_take, if_pos hj, List.getElem?_drop, List.getElem?_drop, List.getElem?_set_ne (by omega)]
  · have hl : ((l.drop o).take n).length = n := by rw [List.length_take, List.length_drop]; omega
    rw [List.getElem?_append_right (by omega), hl, List.getElem?_take, List.getElem?_drop]
    rcases Nat.eq_or_lt_of_le hj with rfl | hj2
    · rw [if_pos (by omega), List.getElem?_set_self (by omega)]; simp
    · rw [if_neg (by omega), List.getElem?_eq_none (by simp; omega)]
theorem append_off {W : World} {B : Nat} {v : Value} {xs : List Value} (h : OwnOff W B v xs) (hB : B ≤ W.heap.size) (hlen : xs.length + 1 ≤ 1000000) (u : Value) (hu : u.oneCell' = true) (ad : Addr) (had : W.cell? ad = some u) (hsp : ad.spot = none) (ty : TypeId) :
    ∃ v' W', (Builtin.append_ #[25, 25] ty #[v, .slice (some ad) 1 1]).run Tryz.prog W = .ok v' W' ∧ OwnOff W' B v' (xs ++ [u]) ∧ W.grownBy W' v.ownBlock ∧ (v'.ownBlock = v.ownBlock ∨ ∃ k, v'.ownBlock = some k ∧ W.heap.size ≤ k) := by
  obtain ⟨i0, hi, hz0, hz1, hz2⟩ := info_parts info_row
  have hnews : ∀ j x, [u][j]? = some x → W.cell? (ad.add j) = some x := by
    intro j x hx
    match j, hx with
    | 0, hx => cases hx; obtain ⟨b, o, s⟩ := ad; simp at hsp; subst hsp; rw [Go.WideShapes.add_plain]; exact had
    | j + 1, hx => simp at hx
  have h1 : ∀ x ∈ [u], x.oneCell' = true := by intro x hx; rw [List.mem_singleton.1 hx]; exact hu
  rcases h with ⟨rfl, rfl⟩ | ⟨g, o, cap, cur, rfl, hb, hg, hn, hm, hs, ht⟩
  · obtain ⟨v', W', hr, ho, hgr, _⟩ := run_append_own (P := Tryz.prog) W W.heap.size 25 ty 28 i0 (.slice none 0 0) 1 24 Tryz.underlying25 hi hz0 hz1 hz2 rfl (by decide) (.slice none 0 0) 0 [] (World.ownsRow_nil _ _ _ _) ad 1 1 [u] rfl hnews h1 (by unfold maxLen; omega) (by omega) (Nat.le_refl _)
    refine ⟨v', W', hr, OwnOff.of_owns (by simpa using ho) hB, hgr, .inr ?_⟩
    rcases ho.2 with ⟨rfl, h0⟩ | ⟨g, cap, cur, rfl, hb, _⟩
    · omega
    · exact ⟨g, rfl, hb⟩
  · rcases Nat.lt_or_ge cap (xs.length + 1) with hc | hc
    · obtain ⟨v', W', hr, ho, hgr⟩ := run_append_arg_grows (P := Tryz.prog) W 25 ty 28 i0 (.slice none 0 0) 1 24 Tryz.underlying25 hi hz0 hz1 hz2 rfl (by decide) ⟨g, o, none⟩ xs.length cap xs (by omega) (fun j x hx => by
        have hj : j < xs.length := by
          rcases Nat.lt_or_ge j xs.length with h | h
          · exact h
          · rw [List.getElem?_eq_none h] at hx; cases hx
        have := OwnOff.cellAt (.inr ⟨g, o, cap, cur, rfl, hb, hg, hn, hm, hs, ht⟩) j hj
        rw [Go.WideShapes.add_plain, this]
        rw [List.getElem?_eq_getElem hj] at hx
        exact hx) ad 1 1 [u] rfl hnews hc (by unfold maxLen; omega) (by omega)
      refine ⟨v', W', hr, OwnOff.of_owns (by simpa using ho) hB, ⟨hgr.os, hgr.tape, hgr.output, hgr.size, fun k hk _ => hgr.block k hk (by simp)⟩, .inr ?_⟩
      rcases ho.2 with ⟨rfl, h0⟩ | ⟨g', cap', cur', rfl, hb', _⟩
      · omega
      · exact ⟨g', rfl, hb'⟩
    · have hlt : o + xs.length < cur.size := by omega
      have hcell : W.cell? ⟨g, o + xs.length, none⟩ = some cur[o + xs.length] := by simp [World.cell?, hg, hlt]
      have hfro : W.frozen? ⟨g, o + xs.length, none⟩ = false := by simp [World.frozen?, hg]
      have hr := run_append_room_cells (P := Tryz.prog) W 25 ty 28 i0 Tryz.underlying25 hi g o xs.length cap ad 1 1 [u] (by rw [hz1]; rfl) hnews h1 hc (fun j hj => by
        have : j = 0 := by simp at hj; omega
        subst this
        rw [hz1, Nat.mul_one, Nat.add_zero, hcell]; rfl) (fun j hj => by
        have : j = 0 := by simp at hj; omega
        subst this
        rw [hz1, Nat.mul_one, Nat.add_zero, hfro])
      rw [hz1, Nat.mul_one] at hr
      refine ⟨_, _, hr, .inr ⟨g, o, cap, cur.setIfInBounds (o + xs.length) u, by simp, hb, heap_setCell_same W g (o + xs.length) cur _ u hg, by simpa using hc, hm, by simpa using hs, ?_⟩, ?_, .inl rfl⟩
      · rw [Array.toList_setIfInBounds, List.length_append, List.length_singleton, take_set_snoc _ _ _ _ (by simpa using hlt), ht]
      · exact ⟨rfl, rfl, rfl, by simp [World.setCells], fun k _ hk => Below.heap_setCell _ _ _ _ (by rintro rfl; exact hk rfl)⟩
end Go.Proofs.YthplgkkailieoaaGreatDoor
