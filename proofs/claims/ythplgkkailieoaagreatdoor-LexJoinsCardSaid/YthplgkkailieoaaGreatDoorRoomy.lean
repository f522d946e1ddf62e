/-
  coilbook.Roomy, walked: a list in new memory with room behind it.
-/
import Derived.Test.YthplgkkailieoaaGreatDoorShort
import Derived.Test.YthplgkkailieoaaGreatDoorRefJoin
import Derived.Laws.CopyRow
import Derived.Lib.SlBuf
import Derived.Deep.Slices
namespace Go.Proofs.YthplgkkailieoaaGreatDoor
open Go Go.RowKit Lx

/-- A slice of tokens as it lies, each with its place. -/
def ZRow (W : World) (v : Value) (xs : List (Int × Tok)) : Prop :=
  ∃ (p : Option Addr) (c : Nat), v = .slice p xs.length c ∧ ∀ j x, xs[j]? = some x → ∃ (g o : Nat), p = some ⟨g, o, none⟩ ∧
    W.cell? ⟨g, o + j * 4, none⟩ = some (.int .i64 x.1) ∧ W.cell? ⟨g, o + j * 4 + 1, none⟩ = some (.int .i64 x.2.2.1) ∧
    W.cell? ⟨g, o + j * 4 + 2, none⟩ = some (.string ⟨x.2.2.2.1.toArray⟩) ∧ W.cell? ⟨g, o + j * 4 + 3, none⟩ = some (.int .i64 x.2.2.2.2)
theorem ZRow.below {w w' : World} {v : Value} {xs : List (Int × Tok)} (h : ZRow w v xs) (hb : Below w.heap.size w w') : ZRow w' v xs := by
  obtain ⟨p, c, rfl, hp⟩ := h
  refine ⟨p, c, rfl, fun j t ht => ?_⟩
  obtain ⟨g, o, rfl, a0, a1, a2, a3⟩ := hp j t ht
  have hg := cell_lt a0
  exact ⟨g, o, rfl, (hb.cell (p := ⟨g, _, none⟩) hg).trans a0, (hb.cell (p := ⟨g, _, none⟩) hg).trans a1, (hb.cell (p := ⟨g, _, none⟩) hg).trans a2, (hb.cell (p := ⟨g, _, none⟩) hg).trans a3⟩
theorem ZRow.any {w : World} {v : Value} {xs : List (Int × Tok)} (h : ZRow w v xs) : TokAny w v (xs.map (·.2)) := by
  obtain ⟨p, c, rfl, hp⟩ := h
  refine ⟨p, c, by simp, fun j t ht => ?_⟩
  rw [List.getElem?_map] at ht
  rcases hx : xs[j]? with _ | x
  · rw [hx] at ht; cases ht
  · rw [hx] at ht
    cases ht
    obtain ⟨g, o, e, a⟩ := hp j x hx
    exact ⟨g, o, _, e, a⟩
theorem TokAny.z {w : World} {v : Value} {ts : List Tok} (h : TokAny w v ts) : ∃ xs, xs.map (·.2) = ts ∧ ZRow w v xs := by
  obtain ⟨p, c, rfl, hp⟩ := h
  have each : ∀ j, j < ts.length → ∃ z : Int, ∀ t, ts[j]? = some t → ∃ g o, p = some ⟨g, o, none⟩ ∧ w.cell? ⟨g, o + j * 4, none⟩ = some (.int .i64 z) ∧ w.cell? ⟨g, o + j * 4 + 1, none⟩ = some (.int .i64 t.2.1) ∧
    w.cell? ⟨g, o + j * 4 + 2, none⟩ = some (.string ⟨t.2.2.1.toArray⟩) ∧ w.cell? ⟨g, o + j * 4 + 3, none⟩ = some (.int .i64 t.2.2.2) := by
    intro j _
    rcases hj : ts[j]? with _ | t
    · exact ⟨0, fun t ht => by cases ht⟩
    · obtain ⟨g, o, z, e, a⟩ := hp j t hj
      exact ⟨z, fun t' ht => by cases ht; exact ⟨g, o, e, a⟩⟩
  obtain ⟨Z, hZ⟩ := Go.Deep.choose_lt each
  refine ⟨(List.range ts.length).map fun j => (Z j, ts.getD j (0, 0, [], 0)), ?_, p, c, by simp, fun j x hx => ?_⟩
  · apply List.ext_getElem?
    intro j
    rw [List.map_map, List.getElem?_map]
    rcases Nat.lt_or_ge j ts.length with h | h
    · rw [List.getElem?_range h]; simp [h]
    · rw [List.getElem?_eq_none (by simpa using h), List.getElem?_eq_none h]; rfl
  · rw [List.getElem?_map] at hx
    rcases Nat.lt_or_ge j ts.length with h | h
    · rw [List.getElem?_range h] at hx
      cases hx
      obtain ⟨g, o, e, a⟩ := hZ j h ts[j] (by simp [h])
      refine ⟨g, o, e, ?_⟩
      simpa [List.getD_eq_getElem?_getD, h] using a
    · rw [List.getElem?_eq_none (by simpa using h)] at hx; cases hx
theorem allZ_len (xs : List (Int × Tok)) : (allZ xs).length = xs.length * 4 := by
  induction xs with
  | nil => rfl
  | cons x xs ih =>
    have : allZ (x :: xs) = zCells x ++ allZ xs := by simp [allZ]
    rw [this, List.length_append, ih]; simp [zCells]; omega
theorem allZ_back : ∀ (xs : List (Int × Tok)) (j : Nat) (u : Value), (allZ xs)[j]? = some u → ∃ x, xs[j / 4]? = some x ∧ (zCells x)[j % 4]? = some u
  | [], j, u, h => by simp [allZ] at h
  | x :: xs, j, u, h => by
    have e : allZ (x :: xs) = zCells x ++ allZ xs := by simp [allZ]
    rw [e] at h
    rcases Nat.lt_or_ge j 4 with hj | hj
    · rw [List.getElem?_append_left (by simpa [zCells] using hj)] at h
      exact ⟨x, by rw [show j / 4 = 0 from by omega]; rfl, by rw [show j % 4 = j from by omega]; exact h⟩
    · rw [List.getElem?_append_right (by simpa [zCells] using hj)] at h
      obtain ⟨y, h1, h2⟩ := allZ_back xs (j - 4) u (by simpa [zCells] using h)
      exact ⟨y, by rw [show j / 4 = (j - 4) / 4 + 1 from by omega]; simpa using h1, by rw [show j % 4 = (j - 4) % 4 from by omega]; exact h2⟩
/-- where the cells of a row lie, from any place. -/
theorem ZRow.src {W : World} {a : Addr} {c n : Nat} {xs : List (Int × Tok)} (h : ZRow W (.slice (some a) n c) xs) : ∀ j u, (allZ xs)[j]? = some u → W.cell? (a.add j) = some u := by
  intro j u hu
  obtain ⟨p, c', e, hp⟩ := h
  obtain ⟨x, hx, hz⟩ := allZ_back xs j u hu
  obtain ⟨g, o, e2, a0, a1, a2, a3⟩ := hp _ x hx
  simp only [Value.slice.injEq] at e
  obtain ⟨e1, _, _⟩ := e
  rw [e2] at e1
  obtain rfl : a = ⟨g, o, none⟩ := Option.some.inj e1
  rw [Go.WideShapes.add_plain]
  have hj : o + j = o + j / 4 * 4 + j % 4 := by omega
  rw [hj]
  have h4 : j % 4 < 4 := Nat.mod_lt _ (by decide)
  generalize j % 4 = r at hz h4
  match r, h4 with
  | 0, _ => simp [zCells] at hz; subst hz; simpa using a0
  | 1, _ => simp [zCells] at hz; subst hz; exact a1
  | 2, _ => simp [zCells] at hz; subst hz; exact a2
  | 3, _ => simp [zCells] at hz; subst hz; exact a3
theorem ZRow.of_cells {W : World} {g o n c : Nat} {xs : List (Int × Tok)} (hn : n = xs.length) (h : ∀ j u, (allZ xs)[j]? = some u → W.cell? ⟨g, o + j, none⟩ = some u) : ZRow W (.slice (some ⟨g, o, none⟩) n c) xs := by
  subst hn
  refine ⟨_, _, rfl, fun j x hx => ⟨g, o, rfl, ?_, ?_, ?_, ?_⟩⟩
  · have := h (j * 4 + 0) _ (allZ_at xs j x 0 _ hx rfl); simpa using this
  · have := h (j * 4 + 1) _ (allZ_at xs j x 1 _ hx rfl); simpa [Nat.add_assoc] using this
  · have := h (j * 4 + 2) _ (allZ_at xs j x 2 _ hx rfl); simpa [Nat.add_assoc] using this
  · have := h (j * 4 + 3) _ (allZ_at xs j x 3 _ hx rfl); simpa [Nat.add_assoc] using this
theorem zCells_one (x : Int × Tok) : ∀ u ∈ zCells x, u.oneCell' = true := by
  intro u hu; simp [zCells] at hu; rcases hu with rfl | rfl | rfl | rfl <;> rfl
theorem allZ_one (xs : List (Int × Tok)) : ∀ u ∈ allZ xs, u.oneCell' = true := by
  intro u hu
  obtain ⟨x, _, h⟩ := List.mem_flatMap.1 hu
  exact zCells_one x u h
/-- 'copy' of tokens onto a row of the call's own. -/
theorem copy_toks {W : World} {B g N cap : Nat} {L : List Value} {p : Option Addr} {c ty : Nat} {xs : List (Int × Tok)} (h : W.ownsRow B 40 4 (.slice (some ⟨g, 0, none⟩) N cap) N L) (hx : xs.length ≤ N) (hv : ZRow W (.slice p xs.length c) xs) :
    ∃ W', (Builtin.copy_ #[28, 28] ty #[.slice (some ⟨g, 0, none⟩) N cap, .slice p xs.length c]).run Tryz.prog W = .ok (goInt xs.length) W' ∧ W'.ownsRow B 40 4 (.slice (some ⟨g, 0, none⟩) N cap) N (allZ xs ++ L.drop (xs.length * 4)) ∧ Below g W W' := by
  have hsz : (Tryz.prog.info? 40).map (·.size) = some 4 := by kernel_rfl
  have hmin : Nat.min xs.length N = xs.length := Nat.min_eq_left hx
  rcases hi : Tryz.prog.info? 40 with _ | i
  · rw [hi] at hsz; cases hsz
  · have hi4 : i.size = 4 := by rw [hi] at hsz; simpa using hsz
    cases p with
    | none =>
      have hx0 : xs = [] := by
        cases xs with
        | nil => rfl
        | cons x xs =>
          obtain ⟨p, c', e, hp⟩ := hv
          obtain ⟨g, o, e2, _⟩ := hp 0 x rfl
          simp only [Value.slice.injEq] at e
          rw [← e.1] at e2; cases e2
      subst hx0
      refine ⟨W, ?_, by simpa [allZ] using h, Below.refl _ _⟩
      simp [Builtin.copy_, run_underlying Tryz.underlying28, Builtin.lenOf, Builtin.firstCells, sizeOf, typeInfo, hi, storeCells]
    | some a =>
      have hsrc := hv.src
      have hl := run_loadCells_list (P := Tryz.prog) W a (allZ xs) hsrc
      rcases h.2 with ⟨h', _⟩ | ⟨g', cap', cur, h', hb, hg, hnc, hcm, hcs, htake⟩
      · simp at h'
      · simp only [Value.slice.injEq, Option.some.injEq, Addr.mk.injEq, and_true, true_and] at h'
        obtain ⟨rfl, rfl⟩ := h'
        have hlen := allZ_len xs
        have hfit : (allZ xs).length ≤ cur.size := by rw [hlen, hcs]; exact Nat.mul_le_mul_right 4 (Nat.le_trans hx hnc)
        have hst := run_storeCells_at Tryz.prog g 0 40 (allZ xs) 0 cur W hg (by simpa using hfit) (allZ_one xs)
        refine ⟨W.setRow g (cur.toList.take (0 + 0) ++ allZ xs ++ cur.toList.drop (0 + 0 + (allZ xs).length)).toArray, ?_, ?_, ?_⟩
        · rw [hlen] at hl
          simp [Builtin.copy_, run_underlying Tryz.underlying28, Builtin.lenOf, Builtin.firstCells, sizeOf, typeInfo, hi, hi4, hmin, hl, hst]
        · have hLl := h.1
          refine ⟨by simp only [List.length_append, List.length_drop, hlen]; omega, .inr ⟨g, cap, _, rfl, hb, setRow_heap W g cur _ _ _ hg, hnc, hcm, ?_, ?_⟩⟩
          · simp only [List.size_toArray, List.length_append, List.length_take, List.length_drop, hlen, Array.length_toList] at hfit ⊢
            omega
          · rw [← htake]
            apply List.ext_getElem?
            intro j
            simp only [List.take_zero, Nat.add_zero, List.nil_append, hlen, Nat.zero_add]
            rw [List.getElem?_take]
            rcases Nat.lt_or_ge j (xs.length * 4) with hj | hj
            · rw [if_pos (by omega), List.getElem?_append_left (by omega), List.getElem?_append_left (by omega)]
            · rw [List.getElem?_append_right (by omega), List.getElem?_append_right (by omega), List.getElem?_drop, List.getElem?_drop, hlen, List.getElem?_take]
              by_cases hj2 : j < N * 4
              · rw [if_pos hj2, if_pos (by omega)]
              · rw [if_neg hj2, if_neg (by omega)]
        · exact ⟨rfl, rfl, rfl, by simp [World.setRow], fun k hk => setRow_other W g k _ (by omega)⟩
theorem set_four (A R : List Value) (a b c d v0 v1 v2 v3 : Value) : ((((A ++ a :: b :: c :: d :: R).set A.length v0).set (A.length + 1) v1).set (A.length + 2) v2).set (A.length + 3) v3 = A ++ v0 :: v1 :: v2 :: v3 :: R := by
  simp
theorem set_take (L : List Value) (m : Nat) (v0 v1 v2 v3 : Value) (h : m * 4 + 4 ≤ L.length) : ((((L.set (m * 4) v0).set (m * 4 + 1) v1).set (m * 4 + 2) v2).set (m * 4 + 3) v3).take ((m + 1) * 4) = L.take (m * 4) ++ [v0, v1, v2, v3] := by
  have e : L = L.take (m * 4) ++ L.drop (m * 4) := (List.take_append_drop _ _).symm
  have hl : (L.take (m * 4)).length = m * 4 := by rw [List.length_take]; omega
  have hd : (L.drop (m * 4)).length = L.length - m * 4 := List.length_drop
  match hR : L.drop (m * 4) with
  | [] => rw [hR] at hd; simp at hd; omega
  | [_] => rw [hR] at hd; simp at hd; omega
  | [_, _] => rw [hR] at hd; simp at hd; omega
  | [_, _, _] => rw [hR] at hd; simp at hd; omega
  | a :: b :: c :: d :: R =>
    rw [hR] at e
    have := set_four (L.take (m * 4)) R a b c d v0 v1 v2 v3
    rw [hl, ← e] at this
    rw [this]
    rw [List.take_append, hl, show (m + 1) * 4 - m * 4 = 4 from by omega, List.take_of_length_le (by rw [hl]; omega)]
    rfl
def gone : Int × Tok := (0, (0, -77, [], 0))
set_option maxHeartbeats 2000000 in
set_option maxRecDepth 100000 in
theorem Roomy_any (v : Value) (xs : List (Int × Tok)) (w : World) (hv : ZRow w v xs) (hl : xs.length ≤ 1000000) :
    Calls Tryz.prog 18 #[v, .agg #[.int .i64 0, .int .i64 (-77), .string ⟨#[]⟩, .int .i64 0]] w fun e w' => ∃ b, e = .returned (.slice (some ⟨b, 0, none⟩) (xs.length + 80) (xs.length + 80)) ∧ w.heap.size ≤ b ∧
      w'.ownsRow w.heap.size 40 4 (.slice (some ⟨b, 0, none⟩) (xs.length + 80) (xs.length + 80)) (xs.length + 80) (allZ (xs ++ List.replicate 80 gone)) ∧ Below w.heap.size w w' := by
  obtain ⟨i0, hi, hz0, hz1, hz2⟩ := info_parts info_tok
  have HV := hide hv
  obtain ⟨p, c, rfl, hp⟩ := hv
  clear hp
  obtain ⟨N, hN⟩ : ∃ N, N = xs.length + 80 := ⟨_, rfl⟩
  have hNi : (xs.length : Int) + 80 = (N : Int) := by omega
  have hN2 : xs.length ≤ N ∧ N ≤ 1000080 := by omega
  rw [← hN]
  have HN := hide hN
  clear hN
  go_enter Tryz.func18, Tryz.ntmps18
  go_wp2_with (at_make; refine wpList_make_full _ rfl _ _ 28 rfl (w.heap.size + 1) 40 i0 (.agg #[.int .i64 0, .int .i64 0, .string ⟨#[]⟩, .int .i64 0]) 4 Tryz.underlying28 hi hz0 hz1 .i64 .i64 _ _ N rfl rfl (by omega) (by omega) (by rw [hz2]; omega) (by unfold maxLen; omega) (by simp) ?_; intro w1 hown1 hgrow1)
  simp only [World.size_alloc] at hown1
  obtain ⟨O, hO⟩ : ∃ O : Obj, O = .cells #[.int .i64 0, .int .i64 (-77), .string ⟨#[]⟩, .int .i64 0] 40 := ⟨_, rfl⟩
  have hb1 : Below (w.heap.size + 1) (w.alloc O) w1 := by rw [hO]; exact (Below.refl _ _).grown hgrow1 (by simp) (by simp)
  have hv1 : ZRow w1 (.slice p xs.length c) xs := ((unhide HV).below ((Below.refl _ _).alloc (Nat.le_refl _) O)).below (hb1.mono (by simp))
  obtain ⟨w2, hrun, hown2, hb2⟩ := copy_toks (ty := 3) hown1 hN2.1 hv1
  have hb3 : Below (w.heap.size + 1) (w.alloc O) w2 := hb1.trans (hb2.mono (by omega))
  obtain ⟨L, hL⟩ : ∃ L, L = allZ xs ++ (madeCells (Value.agg #[.int .i64 0, .int .i64 0, .string ⟨#[]⟩, .int .i64 0]).cells (N * 4)).toList.drop (xs.length * 4) := ⟨_, rfl⟩
  rw [← hL] at hown2
  have HL0 : Hid (L.take (xs.length * 4) = allZ (xs ++ List.replicate (xs.length - xs.length) gone)) := by
    show _ = _
    rw [hL, List.take_append, allZ_len, List.take_of_length_le (by rw [allZ_len]; omega)]
    simp
  have m0 : ∀ j, (w.alloc O).cell? ⟨w.heap.size, j, none⟩ = #[Value.int .i64 0, .int .i64 (-77), .string ⟨#[]⟩, .int .i64 0][j]? := fun j => by rw [hO, World.cell?_alloc_at _ _ _ _ (by rfl)]
  have HM := hide m0
  have HB0 := hide (show Below w.heap.size w (w.alloc O) from (Below.refl _ _).alloc (Nat.le_refl _) O)
  clear hL hO hgrow1 hown1 hb1 hv1 hb2 m0
  rw [hrun]
  go_wp2
  go_loopw [6] (fun i wr => ∃ (m : Nat) (L : List Value), i = .int .i64 m ∧ xs.length ≤ m ∧ m ≤ N ∧ Hid (L.take (m * 4) = allZ (xs ++ List.replicate (m - xs.length) gone)) ∧ wr.ownsRow (w.heap.size + 1) 40 4 (.slice (some ⟨w.heap.size + 1, 0, none⟩) N N) N L ∧ Below (w.heap.size + 1) (w.alloc O) wr) (fun i _ => N - (intOf i).toNat)
  case atStart => exact ⟨xs.length, L, rfl, Nat.le_refl _, hN2.1, HL0, hown2, hb3⟩
  case round =>
    clear hown2 hb3 HL0 hrun L
    obtain ⟨m, L, rfl, hm1, hm2, HL, hown, hb⟩ := hrel
    have hLl := hown.1
    by_cases hlt : m < N
    · have hlt' : (m : Int) < (N : Int) := by omega
      have r0 := (hb.cell (p := ⟨w.heap.size, 0, none⟩) (Nat.lt_succ_self _)).trans (unhide HM 0)
      have r1 := (hb.cell (p := ⟨w.heap.size, 1, none⟩) (Nat.lt_succ_self _)).trans (unhide HM 1)
      have r2 := (hb.cell (p := ⟨w.heap.size, 2, none⟩) (Nat.lt_succ_self _)).trans (unhide HM 2)
      have r3 := (hb.cell (p := ⟨w.heap.size, 3, none⟩) (Nat.lt_succ_self _)).trans (unhide HM 3)
      simp at r0 r1 r2 r3
      obtain ⟨l0, c0⟩ : ∃ u, wr.cell? ⟨w.heap.size + 1, m * 4, none⟩ = some u := ⟨L[m * 4]'(by omega), by rw [hown.cellAt (m * 4) (by omega)]; simp⟩
      obtain ⟨l1, c1⟩ : ∃ u, wr.cell? ⟨w.heap.size + 1, m * 4 + 1, none⟩ = some u := ⟨L[m * 4 + 1]'(by omega), by rw [hown.cellAt (m * 4 + 1) (by omega)]; simp⟩
      obtain ⟨l2, c2⟩ : ∃ u, wr.cell? ⟨w.heap.size + 1, m * 4 + 2, none⟩ = some u := ⟨L[m * 4 + 2]'(by omega), by rw [hown.cellAt (m * 4 + 2) (by omega)]; simp⟩
      obtain ⟨l3, c3⟩ : ∃ u, wr.cell? ⟨w.heap.size + 1, m * 4 + 3, none⟩ = some u := ⟨L[m * 4 + 3]'(by omega), by rw [hown.cellAt (m * 4 + 3) (by omega)]; simp⟩
      have cf := hown.frozenAt
      have HN2 : Hid (((((L.set (m * 4) (.int .i64 0)).set (m * 4 + 1) (.int .i64 (-77))).set (m * 4 + 2) (.string ⟨#[]⟩)).set (m * 4 + 3) (.int .i64 0)).take ((m + 1) * 4) = allZ (xs ++ List.replicate (m + 1 - xs.length) gone)) := by
        show _ = _
        rw [set_take L m _ _ _ _ (by omega), unhide HL, show m + 1 - xs.length = (m - xs.length) + 1 from by omega, List.replicate_succ', ← List.append_assoc, allZ_snoc]
        rfl
      have hown' := ((((hown.stored (m * 4) (.int .i64 0)).1.stored (m * 4 + 1) (.int .i64 (-77))).1.stored (m * 4 + 2) (.string ⟨#[]⟩)).1.stored (m * 4 + 3) (.int .i64 0)).1
      have HO' := hide hown'
      have hb' := (((hb.setCell (p := ⟨w.heap.size + 1, m * 4, none⟩) (Nat.le_refl _) (.int .i64 0)).setCell (p := ⟨w.heap.size + 1, m * 4 + 1, none⟩) (Nat.le_refl _) (.int .i64 (-77))).setCell (p := ⟨w.heap.size + 1, m * 4 + 2, none⟩) (Nat.le_refl _) (.string ⟨#[]⟩)).setCell (p := ⟨w.heap.size + 1, m * 4 + 3, none⟩) (Nat.le_refl _) (.int .i64 0)
      have HB' := hide hb'
      clear hown hown' hb hb' HL hLl
      go_wp2
      go_roundw
      case rel => exact ⟨m + 1, _, by go_num, by omega, by omega, HN2, unhide HO', unhide HB'⟩
      case measure => simp [intOf]; omega
    · have hmN : m = N := by omega
      subst hmN
      have hLL : L = allZ (xs ++ List.replicate 80 gone) := by
        have e := unhide HL
        rw [List.take_of_length_le (by omega), show m - xs.length = 80 from by have := unhide HN; omega] at e
        exact e
      subst hLL
      have hbw : Below w.heap.size w wr := (unhide HB0).trans (hb.mono (by omega))
      clear HL hb HM HB0
      go_wp2
      go_ret
      exact ⟨w.heap.size + 1, rfl, by omega, ownsRow_less hown (by omega), hbw⟩
end Go.Proofs.YthplgkkailieoaaGreatDoor
