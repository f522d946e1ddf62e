/-
  coilbook.Book.Apart, walked: each kept list is written full with its own mark, and holds it.
-/
import Derived.Test.YthplgkkailieoaaGreatDoorBook3
import Derived.Deep.RegionWith
namespace Go.Proofs.YthplgkkailieoaaGreatDoor
open Go Go.RowKit Lx

def markCells (i j : Nat) : List Value := [.int .i64 0, .int .i64 (-1 - (i : Int)), .string ⟨#[]⟩, .int .i64 j]
def marks (i : Nat) : Nat → List Value
  | 0 => []
  | c + 1 => marks i c ++ markCells i c
theorem marks_len (i : Nat) : ∀ c, (marks i c).length = c * 4
  | 0 => rfl
  | c + 1 => by rw [marks, List.length_append, marks_len i c]; simp [markCells]; omega
theorem marks_at (i : Nat) : ∀ (c j r : Nat), j < c → r < 4 → (marks i c)[j * 4 + r]? = (markCells i j)[r]?
  | 0, _, _, h, _ => by omega
  | c + 1, j, r, h, hr => by
    rw [marks]
    rcases Nat.lt_or_ge j c with hj | hj
    · rw [List.getElem?_append_left (by rw [marks_len]; omega)]
      exact marks_at i c j r hj hr
    · have : j = c := by omega
      subst this
      rw [List.getElem?_append_right (by rw [marks_len]; omega), marks_len]
      congr 1
      omega
theorem put_four (A R : List Value) (a b c d v0 v1 v2 v3 : Value) : ((((A ++ a :: b :: c :: d :: R).set A.length v0).set (A.length + 1) v1).set (A.length + 2) v2).set (A.length + 3) v3 = A ++ v0 :: v1 :: v2 :: v3 :: R := by
  simp
theorem put_take (L : List Value) (m : Nat) (v0 v1 v2 v3 : Value) (h : m * 4 + 4 ≤ L.length) : ((((L.set (m * 4) v0).set (m * 4 + 1) v1).set (m * 4 + 2) v2).set (m * 4 + 3) v3).take ((m + 1) * 4) = L.take (m * 4) ++ [v0, v1, v2, v3] := by
  have e : L = L.take (m * 4) ++ L.drop (m * 4) := (List.take_append_drop _ _).symm
  have hl : (L.take (m * 4)).length = m * 4 := by rw [List.length_take]; omega
  have hd : (L.drop (m * 4)).length = L.length - m * 4 := List.length_drop
  match hR : L.drop (m * 4) with
  | [] => rw [hR] at hd; simp at hd; omega
  | [_] => rw [hR] at hd; simp at hd; omega
  | [_, _] => rw [hR] at hd; simp at hd; omega
  | [_, _, _] => rw [hR] at hd; simp at hd; omega
  | a :: b :: c :: d :: R =>
    rw [hR] at e
    have := put_four (L.take (m * 4)) R a b c d v0 v1 v2 v3
    rw [hl, ← e] at this
    rw [this]
    rw [List.take_append, hl, show (m + 1) * 4 - m * 4 = 4 from by omega, List.take_of_length_le (by rw [hl]; omega)]
    rfl
/-- A kept list's own room, of so many places, holding so many marks. -/
def Room (W : World) (B : Nat) (v : Value) (i m : Nat) : Prop :=
  v = .slice none 0 0 ∨ ∃ g n c cur, v = .slice (some ⟨g, 0, none⟩) n c ∧ B ≤ g ∧ n ≤ c ∧ c ≤ maxLen ∧ W.heap[g]? = some (.cells cur 40 (0, 0)) ∧ cur.size = c * 4 ∧ cur.toList.take (min m c * 4) = marks i (min m c)
theorem Room.of_owns {W : World} {B n : Nat} {v : Value} {xs : List Value} (i : Nat) (h : W.ownsRow B 40 4 v n xs) : Room W B v i 0 := by
  rcases h.2 with ⟨rfl, _⟩ | ⟨g, cap, cur, rfl, hb, hg, hn, hm, hs, _⟩
  · exact .inl rfl
  · exact .inr ⟨g, n, cap, cur, rfl, hb, hn, hm, hg, hs, by simp [marks]⟩
theorem Room.kept {W W' : World} {B : Nat} {v : Value} {i m : Nat} (h : Room W B v i m) (hk : ∀ g, v.ownBlock = some g → W'.heap[g]? = W.heap[g]?) : Room W' B v i m := by
  rcases h with h | ⟨g, n, c, cur, rfl, h0, h1, h2, h3, r⟩
  · exact .inl h
  · exact .inr ⟨g, n, c, cur, rfl, h0, h1, h2, (hk g rfl).trans h3, r⟩
theorem Room.lt {W : World} {B : Nat} {v : Value} {i m : Nat} (h : Room W B v i m) : ∀ g, v.ownBlock = some g → B ≤ g ∧ g < W.heap.size ∧ ∃ cur, W.heap[g]? = some (.cells cur 40 (0, 0)) := by
  intro g hg
  rcases h with rfl | ⟨g', n, c, cur, rfl, h0, h1, h2, h3, r⟩
  · simp [Value.ownBlock] at hg
  · obtain rfl : g' = g := by simpa [Value.ownBlock] using hg
    exact ⟨h0, (Array.getElem?_eq_some_iff.1 h3).1, cur, h3⟩
/-- What Apart holds to while it writes: those ahead of i are full, the others are there. -/
structure Writes (bk B : Nat) (K : List Kept) (lv : Value) (A : Array Value) (i : Nat) (W : World) : Prop where
  box : W.heap[bk]? = some (.cells A 27)
  row : OwnOff W B lv (K.map (·.1))
  full : ∀ k (hk : k < K.length), k < i → Room W B K[k].1 k 9223372036854775807
  rest : ∀ k (hk : k < K.length), i ≤ k → Room W B K[k].1 k 0
theorem Writes.heap {bk B : Nat} {K : List Kept} {lv : Value} {A : Array Value} {i : Nat} {W W' : World} (h : Writes bk B K lv A i W) (hb : Below W.heap.size W W') : Writes bk B K lv A i W' := by
  have hr : ∀ v j m, Room W B v j m → Room W' B v j m := fun v j m hh => hh.kept (fun g hg => hb.block g (hh.lt g hg).2.1)
  exact ⟨(hb.block bk (Array.getElem?_eq_some_iff.1 h.box).1).trans h.box, h.row.kept (fun k hk => hb.block k (h.row.lt k hk).2), fun k hk hi => hr _ _ _ (h.full k hk hi), fun k hk hi => hr _ _ _ (h.rest k hk hi)⟩
theorem full_min {c : Nat} (h : c ≤ maxLen) : min 9223372036854775807 c = c := by unfold maxLen at h; omega
/-- A mark more. -/
theorem Room.more {W : World} {B g n c k m : Nat} (h : Room W B (.slice (some ⟨g, 0, none⟩) n c) k m) (hm : m < c) :
    (∃ u, W.cell? ⟨g, m * 4, none⟩ = some u) ∧ (∃ u, W.cell? ⟨g, m * 4 + 1, none⟩ = some u) ∧ (∃ u, W.cell? ⟨g, m * 4 + 2, none⟩ = some u) ∧ (∃ u, W.cell? ⟨g, m * 4 + 3, none⟩ = some u) ∧ (∀ o, W.frozen? ⟨g, o, none⟩ = false) ∧
    Room ((((W.setCell ⟨g, m * 4, none⟩ (.int .i64 0)).setCell ⟨g, m * 4 + 1, none⟩ (.int .i64 (-1 - (k : Int)))).setCell ⟨g, m * 4 + 2, none⟩ (.string ⟨#[]⟩)).setCell ⟨g, m * 4 + 3, none⟩ (.int .i64 m)) B (.slice (some ⟨g, 0, none⟩) n c) k (m + 1) := by
  rcases h with h | ⟨g', n', c', cur, e, h0, h1, h2, h3, h4, h5⟩
  · cases h
  · simp only [Value.slice.injEq, Option.some.injEq, Addr.mk.injEq, and_true] at e
    obtain ⟨rfl, rfl, rfl⟩ := e
    have hc : ∀ o, o < cur.size → ∃ u, W.cell? ⟨g, o, none⟩ = some u := fun o ho => ⟨cur[o], by simp [World.cell?, h3, ho]⟩
    refine ⟨hc _ (by omega), hc _ (by omega), hc _ (by omega), hc _ (by omega), fun o => by simp [World.frozen?, h3], ?_⟩
    have a1 := heap_setCell_same W g (m * 4) cur _ (.int .i64 0) h3
    have a2 := heap_setCell_same _ g (m * 4 + 1) _ _ (.int .i64 (-1 - (k : Int))) a1
    have a3 := heap_setCell_same _ g (m * 4 + 2) _ _ (.string ⟨#[]⟩) a2
    have a4 := heap_setCell_same _ g (m * 4 + 3) _ _ (.int .i64 m) a3
    refine .inr ⟨g, n, c, _, rfl, h0, h1, h2, a4, by simpa using h4, ?_⟩
    rw [show min (m + 1) c = m + 1 from by omega]
    rw [show min m c = m from by omega] at h5
    simp only [Array.toList_setIfInBounds]
    rw [put_take _ _ _ _ _ _ (by simp; omega), h5]
    rfl
/-- The next list is full. -/
theorem Writes.next {bk B : Nat} {K : List Kept} {lv : Value} {A : Array Value} {i : Nat} {W W' : World} (h : Writes bk B K lv A i W) (hi : i < K.length) (ha : K.Pairwise (fun a b => Far a.1 b.1)) (hf : Room W' B K[i].1 i 9223372036854775807) (hc : ∀ g, K[i].1.ownBlock = some g → ∃ cur, W.heap[g]? = some (.cells cur 40 (0, 0)))
    (hs : ∀ q, q < W.heap.size → K[i].1.ownBlock ≠ some q → W'.heap[q]? = W.heap[q]?) : Writes bk B K lv A (i + 1) W' := by
  have hfar : ∀ k (hk : k < K.length), k ≠ i → ∀ g, K[k].1.ownBlock = some g → K[i].1.ownBlock ≠ some g := by
    intro k hk hne g hg
    rcases Nat.lt_or_gt_of_ne hne with hlt | hgt
    · exact List.pairwise_iff_getElem.1 ha k i hk hi hlt g hg
    · intro e
      exact List.pairwise_iff_getElem.1 ha i k hi hk hgt g e hg
  have hr : ∀ k (hk : k < K.length) m, k ≠ i → Room W B K[k].1 k m → Room W' B K[k].1 k m := fun k hk m hne hh => hh.kept (fun g hg => hs g (hh.lt g hg).2.1 (hfar k hk hne g hg))
  refine ⟨(hs bk (Array.getElem?_eq_some_iff.1 h.box).1 (fun e => ?_)).trans h.box, h.row.kept (fun k hk => hs k (h.row.lt k hk).2 (fun e => ?_)), fun k hk hlt => ?_, fun k hk hle => hr k hk _ (by omega) (h.rest k hk (by omega))⟩
  · obtain ⟨cur, hcur⟩ := hc bk e
    have := h.box
    rw [hcur] at this
    injection this with this
    injection this with _ h2 _
    exact absurd h2 (by decide)
  · obtain ⟨cur, hcur⟩ := hc k e
    exact h.row.ne hcur (by decide) hk
  · by_cases e : k = i
    · subst e; exact hf
    · exact hr k hk _ e (h.full k hk (by omega))
theorem Room.top {W : World} {B k n c : Nat} {p : Option Addr} (h : Room W B (.slice p n c) k c) : Room W B (.slice p n c) k 9223372036854775807 := by
  rcases h with h | ⟨g, n', c', cur, e, h0, h1, h2, h3, h4, h5⟩
  · exact .inl h
  · simp only [Value.slice.injEq] at e
    obtain ⟨rfl, rfl, rfl⟩ := e
    rw [Nat.min_self] at h5
    exact .inr ⟨g, n, c, cur, rfl, h0, h1, h2, h3, h4, by rw [full_min h2]; exact h5⟩
set_option maxHeartbeats 4000000 in
set_option maxRecDepth 100000 in
theorem Apart_any (bk B : Nat) (K : List Kept) (w : World) (h : BookIs bk B K w) (hbk : B ≤ bk) :
    Calls Tryz.prog 14 #[.pointer (some ⟨bk, 0, none⟩), .func (.func 15) #[] #[]] w fun e w' => e = .returned (.bool true) ∧ Below B w w' := by
  have ST := hide (Stays_any bk B K w h)
  have hap := h.apart
  have hfew := h.few
  obtain ⟨⟨lv, wv, hd, hbox, hlv, hwv, hlw⟩, hrows, _, _⟩ := h
  have hW0 : Writes bk B K lv #[lv, wv, .int .i64 hd, .bool false] 0 w := ⟨hbox, hlv, fun k hk hi => by omega, fun k hk _ => Room.of_owns _ (hrows K[k] (by simp)).1⟩
  obtain ⟨lp, lc, rfl⟩ := hlv.shape
  have HAP := hide hap
  have hBw : B ≤ w.heap.size := Nat.le_trans hbk (Nat.le_of_lt (Array.getElem?_eq_some_iff.1 hbox).1)
  have MK := hide (fun (i j : Nat) (hi : i ≤ 1000000) W => mark_any i j hi W)
  simp only [List.length_map] at hW0
  clear hbox hlv hwv hlw hrows hap
  go_enter Tryz.func14, Tryz.ntmps14
  go_wp2_with (go_at_call 31; refine (unhide ST).mono ?_; clear ST; rintro e w' ⟨rfl, m0, rfl⟩)
  have hW1 := hW0.heap (below_drewN (Below.refl _ _) m0)
  have hB1 : Below B w (w.drewN m0) := (below_drewN (Below.refl w.heap.size w) m0).mono hBw
  clear hW0
  revert hW1 hB1
  generalize w.drewN m0 = w1
  intro hW1 hB1
  go_loopw [5] (fun i wr => ∃ k : Nat, i = .int .i64 k ∧ k ≤ K.length ∧ Writes bk B K (.slice lp K.length lc) #[.slice lp K.length lc, wv, .int .i64 hd, .bool false] k wr ∧ Below B w wr) (fun i _ => K.length - (intOf i).toNat)
  case atStart => exact ⟨0, rfl, by omega, hW1, hB1⟩
  case round =>
    clear hW1 hB1
    obtain ⟨k, rfl, hk, hW, hB⟩ := hrel
    have HW := hide hW
    obtain ⟨c0, c1, c2, c3, cf⟩ := book_cells hW.box
    by_cases hlt : k < K.length
    · have hlt' : (k : Int) < (K.length : Int) := by omega
      obtain ⟨g1, o1, rfl⟩ : ∃ g o, lp = some ⟨g, o, none⟩ := by
        rcases hW.row with ⟨_, h⟩ | ⟨g, o, cap, cur, e, _⟩
        · have : K.length = 0 := by simpa using congrArg List.length h
          omega
        · simp only [Value.slice.injEq] at e
          exact ⟨g, o, e.1⟩
      have l0 : wr.cell? ⟨g1, o1 + k, none⟩ = some K[k].1 := (hW.row.cellAt k (by simpa using hlt)).trans (by rw [List.getElem_map])
      have hroom := hW.rest k hlt (Nat.le_refl _)
      obtain ⟨p, n, c, hv, hpc, hcm⟩ : ∃ p n c, K[k].1 = .slice p n c ∧ (p = none → c = 0) ∧ c ≤ maxLen := by
        rcases hroom with e | ⟨g, n, c, cur, e, h0, h1, h2, _⟩
        · exact ⟨none, 0, 0, e, fun _ => rfl, by unfold maxLen; omega⟩
        · exact ⟨_, n, c, e, fun h => (by cases h), h2⟩
      have HV := hide hv
      rw [hv] at l0 hroom
      clear hW hv
      unfold maxLen at hcm
      go_wp2
      go_quiet (fail)
      have hWd := (unhide HW).heap (below_drewN (Below.refl _ _) nq)
      have hBd : Below B w (wr.drewN nq) := hB.trans ((below_drewN (Below.refl wr.heap.size wr) nq).mono (Nat.le_trans hBw (by have := hB.size; omega)))
      have hrd : Room (wr.drewN nq) B (.slice p n c) k 0 := hroom.kept (fun _ _ => rfl)
      clear HW hB hroom c0 c1 c2 c3 cf l0
      revert hWd hBd hrd
      generalize wr.drewN nq = wA
      intro hWd hBd hrd
      have HW := hide hWd
      have HB := hide hBd
      have hBA : B ≤ wA.heap.size := Nat.le_trans hBw hBd.size
      have hgB : ∀ g, (Value.slice p n c).ownBlock = some g → B ≤ g ∧ g < wA.heap.size := fun g hg => ⟨(hrd.lt g hg).1, (hrd.lt g hg).2.1⟩
      have HRD := hide (fun g hg => (hrd.lt g hg).2.2)
      clear hWd hBd
      go_wp2
      go_loopw [7] (fun j wr2 => ∃ m : Nat, j = .int .i64 m ∧ m ≤ c ∧ Room wr2 B (.slice p n c) k m ∧ wA.heap.size ≤ wr2.heap.size ∧ (∀ q, q < wA.heap.size → (Value.slice p n c).ownBlock ≠ some q → wr2.heap[q]? = wA.heap[q]?) ∧ Below B wA wr2) (fun j _ => c - (intOf j).toNat)
      case atStart => exact ⟨0, rfl, by omega, hrd, Nat.le_refl _, fun _ _ _ => rfl, Below.refl _ _⟩
      case round =>
        clear hrd
        obtain ⟨m, rfl, hm, hrm, hsz, hoth, hbm⟩ := hrel
        by_cases hlm : m < c
        · have hlm' : (m : Int) < (c : Int) := by omega
          obtain ⟨g, rfl⟩ : ∃ g, p = some ⟨g, 0, none⟩ := by
            rcases hrm with e | ⟨g, n', c', cur, e, _⟩
            · simp only [Value.slice.injEq] at e
              obtain ⟨rfl, _, rfl⟩ := e
              omega
            · simp only [Value.slice.injEq] at e
              exact ⟨g, e.1⟩
          obtain ⟨hgb, hgA⟩ := hgB g rfl
          have hgr : g < wr.heap.size := by omega
          have MK1 := hide (fun W => unhide MK k m (by omega) W)
          go_wp2_with (go_at_call 15; refine (unhide MK1 _).mono ?_; clear MK1; rintro e w3 ⟨rfl, hb3⟩; have hr3 := hrm.kept (W' := w3) (fun q hq => hb3.block q (by simp [Value.ownBlock] at hq; omega)); obtain ⟨⟨u0, k0⟩, ⟨u1, k1⟩, ⟨u2, k2⟩, ⟨u3, k3⟩, kf, hr4⟩ := hr3.more hlm)
          go_roundw
          case rel => exact ⟨m + 1, by go_num, by omega, hr4, by have := hb3.size; simp; omega, fun q h1 h2 => (Below.heap_setCell _ _ _ _ (fun e => h2 (by rw [e]; rfl))).trans ((Below.heap_setCell _ _ _ _ (fun e => h2 (by rw [e]; rfl))).trans ((Below.heap_setCell _ _ _ _ (fun e => h2 (by rw [e]; rfl))).trans ((Below.heap_setCell _ _ _ _ (fun e => h2 (by rw [e]; rfl))).trans ((hb3.block q (by omega)).trans (hoth q h1 h2))))), ((((hbm.trans (hb3.mono (by omega))).setCell (p := ⟨g, m * 4, none⟩) hgb _).setCell (p := ⟨g, m * 4 + 1, none⟩) hgb _).setCell (p := ⟨g, m * 4 + 2, none⟩) hgb _).setCell (p := ⟨g, m * 4 + 3, none⟩) hgb _⟩
          case measure => simp [intOf]; omega
        · have hmc : m = c := by omega
          subst hmc
          have hNX : Writes bk B K (.slice (some ⟨g1, o1, none⟩) K.length lc) #[.slice (some ⟨g1, o1, none⟩) K.length lc, wv, .int .i64 hd, .bool false] (k + 1) wr := (unhide HW).next hlt (unhide HAP) (by rw [unhide HV]; exact hrm.top) (by rw [unhide HV]; exact unhide HRD) (by rw [unhide HV]; exact hoth)
          have hBX : Below B w wr := (unhide HB).trans hbm
          clear hrm hoth hbm HW HB HRD
          go_wp2
          go_roundw
          case rel => exact ⟨k + 1, by go_num, by omega, hNX, hBX⟩
          case measure => simp [intOf]; omega
    · have hkk : k = K.length := by omega
      subst hkk
      clear hW c1 c2 c3 cf hlt
      go_wp2
      have hW2 := unhide HW
      clear HW c0
      go_loopg [8] K.length (fun gk i wr3 => ∃ k : Nat, i = .int .i64 k ∧ k + gk = K.length ∧ Writes bk B K (.slice lp K.length lc) #[.slice lp K.length lc, wv, .int .i64 hd, .bool false] K.length wr3 ∧ Below B w wr3)
      case atStart => exact ⟨0, rfl, by omega, hW2, hB⟩
      case round =>
        clear hW2 hB
        obtain ⟨k, rfl, hk, hW, hB⟩ := hrel
        have HW := hide hW
        obtain ⟨c0, c1, c2, c3, cf⟩ := book_cells hW.box
        by_cases hlt : k < K.length
        · have hlt' : (k : Int) < (K.length : Int) := by omega
          obtain ⟨g1, o1, rfl⟩ : ∃ g o, lp = some ⟨g, o, none⟩ := by
            rcases hW.row with ⟨_, h⟩ | ⟨g, o, cap, cur, e, _⟩
            · have : K.length = 0 := by simpa using congrArg List.length h
              omega
            · simp only [Value.slice.injEq] at e
              exact ⟨g, o, e.1⟩
          have l0 : wr.cell? ⟨g1, o1 + k, none⟩ = some K[k].1 := (hW.row.cellAt k (by simpa using hlt)).trans (by rw [List.getElem_map])
          have hroom := hW.full k hlt hlt
          obtain ⟨p, n, c, hv, hpc, hcm⟩ : ∃ p n c, K[k].1 = .slice p n c ∧ (p = none → c = 0) ∧ c ≤ maxLen := by
            rcases hroom with e | ⟨g, n, c, cur, e, h0, h1, h2, _⟩
            · exact ⟨none, 0, 0, e, fun _ => rfl, by unfold maxLen; omega⟩
            · exact ⟨_, n, c, e, fun h => (by cases h), h2⟩
          have HV := hide hv
          rw [hv] at l0
          clear hW hv hroom
          unfold maxLen at hcm
          go_wp2
          go_quiet (fail)
          have hWd := (unhide HW).heap (below_drewN (Below.refl _ _) nq)
          have hBd : Below B w (wr.drewN nq) := hB.trans ((below_drewN (Below.refl wr.heap.size wr) nq).mono (Nat.le_trans hBw (by have := hB.size; omega)))
          clear HW hB c0 c1 c2 c3 cf l0
          revert hWd hBd
          generalize wr.drewN nq = wA
          intro hWd hBd
          have HWd := hide hWd
          have HBd := hide hBd
          clear hWd hBd
          go_wp2
          go_loopg [10] c (fun gj j wr4 => ∃ m : Nat, j = .int .i64 m ∧ m + gj = c ∧ Writes bk B K (.slice (some ⟨g1, o1, none⟩) K.length lc) #[.slice (some ⟨g1, o1, none⟩) K.length lc, wv, .int .i64 hd, .bool false] K.length wr4 ∧ Below B w wr4)
          case atStart => exact ⟨0, rfl, by omega, unhide HWd, unhide HBd⟩
          case round =>
            clear HWd HBd
            obtain ⟨m, rfl, hm, hWm, hBm⟩ := hrel
            have HWm := hide hWm
            have HBm := hide hBm
            by_cases hlm : m < c
            · have hlm' : (m : Int) < (c : Int) := by omega
              have hroom := hWm.full k hlt hlt
              rw [unhide HV] at hroom
              obtain ⟨g, rfl, r0, r1, r2, r3, hgl⟩ : ∃ g, p = some ⟨g, 0, none⟩ ∧ wr.cell? ⟨g, m * 4, none⟩ = some (.int .i64 0) ∧ wr.cell? ⟨g, m * 4 + 1, none⟩ = some (.int .i64 (-1 - (k : Int))) ∧ wr.cell? ⟨g, m * 4 + 2, none⟩ = some (.string ⟨#[]⟩) ∧ wr.cell? ⟨g, m * 4 + 3, none⟩ = some (.int .i64 m) ∧ g < wr.heap.size := by
                rcases hroom with e | ⟨g, n', c', cur, e, h0, h1, h2, h3, h4, h5⟩
                · simp only [Value.slice.injEq] at e
                  omega
                · simp only [Value.slice.injEq] at e
                  obtain ⟨rfl, rfl, rfl⟩ := e
                  rw [full_min h2, List.take_of_length_le (by simp; omega)] at h5
                  have hc : ∀ r, r < 4 → wr.cell? ⟨g, m * 4 + r, none⟩ = (markCells k m)[r]? := fun r hr => by
                    rw [← marks_at k c m r hlm hr, ← h5]
                    simp [World.cell?, h3]
                  exact ⟨g, rfl, hc 0 (by omega), hc 1 (by omega), hc 2 (by omega), hc 3 (by omega), (Array.getElem?_eq_some_iff.1 h3).1⟩
              have MK1 := hide (fun W => unhide MK k m (by omega) W)
              clear hroom hWm hBm
              go_upto_region 18 with fail
              go_cut [91] from 77 to 91 (fun s91 wx => s91 = .bool false ∧ Below wr.heap.size wr wx)
              case first =>
                go_region_with (go_at_call 15; refine (unhide MK1 _).mono ?_; rintro e w3 ⟨rfl, hb3⟩; have d0 := (hb3.cell (p := ⟨g, m * 4, none⟩) hgl).trans r0; have d1 := (hb3.cell (p := ⟨g, m * 4 + 1, none⟩) hgl).trans r1; have d2 := (hb3.cell (p := ⟨g, m * 4 + 2, none⟩) hgl).trans r2; have d3 := (hb3.cell (p := ⟨g, m * 4 + 3, none⟩) hgl).trans r3)
                all_goals
                  go_wp2_with fail
                  go_meet
                  exact ⟨rfl, below_of_drew hb3⟩
              case rest =>
                obtain ⟨rfl, hbx⟩ := hcut
                have hWx := (unhide HWm).heap hbx
                have hBx : Below B w wc := (unhide HBm).trans (hbx.mono (Nat.le_trans hBw (unhide HBm).size))
                clear HWm HBm hbx r0 r1 r2 r3
                go_wp2
                go_roundg (c - (m + 1))
                case measure => omega
                case rel => exact ⟨m + 1, by go_num, by omega, hWx, hBx⟩
            · clear hWm hBm
              go_wp2
              go_roundg (K.length - (k + 1))
              case measure => omega
              case rel => exact ⟨k + 1, by go_num, by omega, unhide HWm, unhide HBm⟩
        · clear hW HW
          go_wp2
          go_ret
          exact ⟨rfl, ((hB.setCell (p := ⟨bk, 0, none⟩) hbk _).setCell (p := ⟨bk, 1, none⟩) hbk _).setCell (p := ⟨bk, 2, none⟩) hbk _⟩
end Go.Proofs.YthplgkkailieoaaGreatDoor
