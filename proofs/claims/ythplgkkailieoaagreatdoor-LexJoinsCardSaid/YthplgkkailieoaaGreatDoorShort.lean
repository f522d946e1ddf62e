/-
  coillaw1.short, walked: at most so many tokens, at most 200 bytes of what each says.
-/
import Derived.Test.YthplgkkailieoaaGreatDoorJoinF
import Derived.Test.YthplgkkailieoaaGreatDoorFew
import Derived.OwnWalk
namespace Go.Proofs.YthplgkkailieoaaGreatDoor
namespace Lx
def cutS (t : Tok) : Tok := (0, t.2.1, t.2.2.1.take 200, t.2.2.2)
def shortT (n : Nat) (ts : List Tok) : List Tok := (ts.take n).map cutS
end Lx
open Go Go.RowKit Lx

/-- tokens with their places beside them, cell by cell. -/
def zCells (x : Int × Tok) : List Value := [.int .i64 x.1, .int .i64 x.2.2.1, .string ⟨x.2.2.2.1.toArray⟩, .int .i64 x.2.2.2.2]
def allZ (xs : List (Int × Tok)) : List Value := xs.flatMap zCells
theorem allZ_snoc (xs : List (Int × Tok)) (x : Int × Tok) : allZ (xs ++ [x]) = allZ xs ++ zCells x := by simp [allZ]
theorem allZ_at : ∀ (xs : List (Int × Tok)) (j : Nat) (x : Int × Tok) (i : Nat) (u : Value), xs[j]? = some x → (zCells x)[i]? = some u → (allZ xs)[j * 4 + i]? = some u
  | [], j, t, i, u, h, _ => by simp at h
  | x :: r, 0, t, i, u, h, hu => by
    simp at h; subst h
    have hi : i < (zCells x).length := (List.getElem?_eq_some_iff.1 hu).1
    show (zCells x ++ allZ r)[0 * 4 + i]? = some u
    rw [show 0 * 4 + i = i from by omega, List.getElem?_append_left hi]; exact hu
  | x :: r, j + 1, t, i, u, h, hu => by
    have ih := allZ_at r j t i u (by simpa using h) hu
    show (zCells x ++ allZ r)[(j + 1) * 4 + i]? = some u
    rw [List.getElem?_append_right (by simp [zCells]; omega)]
    rw [show (j + 1) * 4 + i - (zCells x).length = j * 4 + i from by simp [zCells]; omega]
    exact ih
theorem TokAny.of_owns {W : World} {base : Nat} {v : Value} {xs : List (Int × Tok)} {n : Nat} (h : W.ownsRow base 40 4 v n (allZ xs)) (hn : xs.length = n) : TokAny W v (xs.map (·.2)) := by
  rcases h.2 with ⟨rfl, h0⟩ | ⟨g, cap, cur, rfl, hg, r⟩
  · refine ⟨none, 0, by rw [List.length_map, hn, h0], fun j t ht => ?_⟩
    rw [List.eq_nil_of_length_eq_zero (hn.trans h0)] at ht; simp at ht
  · refine ⟨some ⟨g, 0, none⟩, cap, by rw [List.length_map, hn], fun j t ht => ?_⟩
    rw [List.getElem?_map] at ht
    rcases hx : xs[j]? with _ | x
    · rw [hx] at ht; cases ht
    · rw [hx] at ht
      obtain rfl : x.2 = t := by simpa using ht
      refine ⟨g, 0, x.1, rfl, ?_, ?_, ?_, ?_⟩
      · have := h.cells (g := g) rfl (j * 4 + 0) _ (allZ_at xs j x 0 _ hx rfl); rw [addr_add] at this; simpa [Nat.add_assoc] using this
      · have := h.cells (g := g) rfl (j * 4 + 1) _ (allZ_at xs j x 1 _ hx rfl); rw [addr_add] at this; simpa [Nat.add_assoc] using this
      · have := h.cells (g := g) rfl (j * 4 + 2) _ (allZ_at xs j x 2 _ hx rfl); rw [addr_add] at this; simpa [Nat.add_assoc] using this
      · have := h.cells (g := g) rfl (j * 4 + 3) _ (allZ_at xs j x 3 _ hx rfl); rw [addr_add] at this; simpa [Nat.add_assoc] using this
theorem fewB_data (s : ByteArray) (n : Nat) : (fewB s n).data.toList = s.data.toList.take n := by
  unfold fewB
  split
  · rw [ByteArray.data_extract, Array.toList_extract]; simp
  · rw [List.take_of_length_le (by simp; omega)]
set_option maxHeartbeats 2000000 in
set_option maxRecDepth 100000 in
theorem short_any (v : Value) (ts : List Tok) (n : Nat) (w : World) (hn : n ≤ 1000) (hl : ts.length ≤ 9223372036854775807) (hS : ∀ t ∈ ts, t.2.2.1.length ≤ 9223372036854775807) (hv : TokAny w v ts) :
    Calls Tryz.prog 17 #[v, .int .i64 n] w fun e w' => ∃ u, e = .returned u ∧ TokAny w' u (shortT n ts) ∧ Below w.heap.size w w' := by
  obtain ⟨p, c, rfl, hp⟩ := hv
  have HP := hide hp
  have HS := hide hS
  clear hp hS
  obtain ⟨i0, hi, hz0, hz1, hz2⟩ := info_parts info_tok
  go_enter Tryz.func17, Tryz.ntmps17
  go_wp2
  go_loopw [5, 6] (fun u i wr => ∃ (k : Nat) (xs : List (Int × Tok)), i = .int .i64 k ∧ k ≤ ts.length ∧ k ≤ n ∧ xs.length = k ∧ wr.ownsRow w.heap.size 40 4 u k (allZ xs) ∧ Below w.heap.size w wr ∧ Hid (xs.map (·.2) = (ts.take k).map cutS)) (fun _ i _ => ts.length - (intOf i).toNat)
  case atStart => exact ⟨0, [], rfl, by omega, by omega, rfl, World.ownsRow_nil _ _ _ _, Below.refl _ _, rfl⟩
  case round =>
    obtain ⟨k, xs, rfl, hk, hkn, hxs, hown, hb, HX⟩ := hrel
    by_cases hlt : k < ts.length
    · have hlt' : (k : Int) < (ts.length : Int) := by omega
      by_cases hlt2 : k < n
      · have hlt2' : (k : Int) < (n : Int) := by omega
        have hget : ts[k]? = some ts[k] := by simp [hlt]
        have hmem := unhide HS ts[k] (by simp)
        have HN : Hid (∀ z : Int, (xs ++ [(z, cutS ts[k])]).map (·.2) = (ts.take (k + 1)).map cutS) := by
          intro z
          have e := unhide HX
          have e2 : ts.take (k + 1) = ts.take k ++ [ts[k]] := by rw [List.take_add_one, hget]; rfl
          rw [List.map_append, e, e2, List.map_append]; rfl
        rcases htk : ts[k] with ⟨pl, kd, sy, nv⟩
        rw [htk] at hget hmem HN
        clear htk
        obtain ⟨g, o, z, rfl, a0, a1, a2, a3⟩ := unhide HP k _ hget
        have hgl := cell_lt a0
        have b0 := (hb.cell (p := ⟨g, _, none⟩) hgl).trans a0
        have b1 := (hb.cell (p := ⟨g, _, none⟩) hgl).trans a1
        have b2 := (hb.cell (p := ⟨g, _, none⟩) hgl).trans a2
        have b3 := (hb.cell (p := ⟨g, _, none⟩) hgl).trans a3
        dsimp only at b1 b2 b3
        have hsz : ByteArray.size ⟨sy.toArray⟩ ≤ 9223372036854775807 := by show sy.toArray.size ≤ _; simpa using hmem
        have FW := hide (fun W => few_any ⟨sy.toArray⟩ 200 W hsz (by omega))
        have hF : (⟨(sy.take 200).toArray⟩ : ByteArray) = fewB ⟨sy.toArray⟩ 200 := by
          apply ByteArray.ext; apply Array.ext'
          rw [fewB_data]
        rw [← hF] at FW
        clear a0 a1 a2 a3 hget hmem hsz hF HX
        go_wp2_with (first
          | (go_at_call 5; refine (unhide FW _).mono ?_; rintro e w' ⟨rfl, rfl⟩; clear FW)
          | (at_builtin; refine wpList_append_own _ rfl _ _ 28 rfl w.heap.size 40 i0 (.agg #[.int .i64 0, .int .i64 0, .string ⟨#[]⟩, .int .i64 0]) 4 40 Tryz.underlying28 hi hz0 hz1 hz2 rfl (by decide) _ k (allZ xs) rfl ?own ⟨_, 0, none⟩ 1 1 (zCells (z, cutS (pl, kd, sy, nv))) rfl rfl ?news ?one ?c3 ?c4 ?c5 ?_))
        case own => exact (hown.alloc _).alloc _
        case news =>
          intro j u hj
          match j, hj with
          | 0, hj => simp [zCells, cutS] at hj; subst hj; simp [Addr.add]
          | 1, hj => simp [zCells, cutS] at hj; subst hj; simp [Addr.add]
          | 2, hj => simp [zCells, cutS] at hj; subst hj; simp [Addr.add]
          | 3, hj => simp [zCells, cutS] at hj; subst hj; simp [Addr.add]
          | j + 4, hj => simp [zCells] at hj
        case one => intro u hu; simp [zCells] at hu; rcases hu with rfl | rfl | rfl | rfl <;> rfl
        case c3 => unfold maxLen; omega
        case c4 => omega
        case c5 => have := hb.size; simp; omega
        intro v' w1 hown' hgrow _
        have hbs := hb.size
        have hb' : Below w.heap.size w w1 := ((hb.alloc hbs _).alloc (by simp; omega) _).grown hgrow (by simp; omega) (fun q e => (hown.lt q e).1)
        rw [← allZ_snoc] at hown'
        have hxs' : (xs ++ [(z, cutS (pl, kd, sy, nv))]).length = k + 1 := by simp [hxs]
        clear hgrow
        go_wp2
        go_roundw
        case rel => exact ⟨k + 1, _, by go_num, by omega, by omega, hxs', hown', hb', unhide HN z⟩
        case measure => simp [intOf]; omega
      · have hlt2' : (n : Int) ≤ (k : Int) := by omega
        have hT := TokAny.of_owns hown hxs
        rw [unhide HX, show ts.take k = ts.take n from by rw [show k = n from by omega]] at hT
        go_wp2
        go_ret
        exact ⟨_, rfl, hT, hb⟩
    · have hT := TokAny.of_owns hown hxs
      rw [unhide HX, show ts.take k = ts.take n from by rw [List.take_of_length_le (show ts.length ≤ k by omega), List.take_of_length_le (show ts.length ≤ n by omega)]] at hT
      go_wp2
      go_ret
      exact ⟨_, rfl, hT, hb⟩
end Go.Proofs.YthplgkkailieoaaGreatDoor
