import Derived.Test.YtmpbbmfbgcpplaaGreatDoorQKeepG
import Derived.Test.YtmpbbmfbgcpplaaGreatDoorQStG
import Derived.Deep.DeepCutAuto
import Derived.Deep.CutBlock
import Derived.Deep.LoopGhost
import Derived.Test.YtmpbbmfbgcpplaaGreatDoorQPartsG
set_option maxHeartbeats 8000000
set_option maxRecDepth 100000
namespace Go.Proofs.YtmpbbmfbgcpplaaGreatDoor
open Go Go.ChangeShapes Go.WideShapes Go.ChangeAt Go.RowKit Go.Deep Lx
theorem bytes_ex : Tryz.prog.bytesOf 28 = 112 := by kernel_rfl
theorem cells_ex : Tryz.prog.cellsOf 28 = 7 := by kernel_rfl
theorem bytes_st : Tryz.prog.bytesOf 105 = 128 := by kernel_rfl
theorem cells_st : Tryz.prog.cellsOf 105 = 7 := by kernel_rfl
def ExWf (D : Nat) : (d : Nat) → List (Ex D d) → Prop
 | 0, _ => True
 | d + 1, xs => xs.length ≤ 140737488351232 ∧ ∀ x ∈ xs, ((xS x).length ≤ 140737488351232 ∧ -9223372036854775808 ≤ xN x ∧ xN x ≤ 9223372036854775807) ∧ (xNs x).length ≤ 140737488351232 ∧ (∀ s ∈ xNs x, s.length ≤ 140737488351232) ∧ TyWf D (xT x) ∧ ExWf D d (xPs x)
def StWf (D d : Nat) : (m : Nat) → List (St D d m) → Prop
 | 0, _ => True
 | m + 1, ss => ss.length ≤ 140737488351232 ∧ ∀ s ∈ ss, (zc7 s).length ≤ 140737488351232 ∧ TyWf D (sT s) ∧ ExWf D d (sX s) ∧ StWf D d m (sB s) ∧ StWf D d m (sE s)
section
variable {H : Type} {enc : TypeId × Value → H} {W : World}
def zkc (enc : TypeId × Value → H) (W : World) (D k : Nat) : Prop := ∀ (v : Value) (x : DataW H × List MemPlace), DataW.trod enc Tryz.prog W 0 (fun _ => true) true (2 * k + 2) 26 [v] = some x → Reached 26 x.1 → ∃ xs : List (Ex D k), ExRow W D k v xs ∧ ExCap W D k v xs ∧ ExWf D k xs
def zl0 (enc : TypeId × Value → H) (W : World) (D d k : Nat) : Prop := ∀ (v : Value) (x : DataW H × List MemPlace), DataW.trod enc Tryz.prog W 0 (fun _ => true) true (2 * k + 2) 40 [v] = some x → Reached 40 x.1 → ∃ ss : List (St D d k), StRow W D d k v ss ∧ StWf D d k ss
theorem int_wf {z : Int} (h : (Lit.int .i64 z).wf = true) : -9223372036854775808 ≤ z ∧ z ≤ 9223372036854775807 := by
 simp [Lit.wf, show IntKind.i64.min = -9223372036854775808 by decide, show IntKind.i64.max = 9223372036854775807 by decide] at h
 omega
theorem open_place {n : Nat} {cs : List Value} {y : DataW H × List MemPlace} (h : DataW.trod enc Tryz.prog W 0 (fun _ => true) true n 23 cs = some y) : ∃ z, cs = [.int .i64 z] := by
 obtain ⟨xs, m, _, rfl, hl, hxl, hf⟩ := DataW.trod_struct Tryz.underlying23 h
 have g0 := hf 0 _ rfl
 have hc : Tryz.prog.cellsOf 23 = 1 := by kernel_rfl
 rw [hc] at hl
 have hx1 : xs.length = 1 := hxl
 rw [List.getElem?_eq_getElem (by omega)] at g0
 obtain ⟨z, e, _, _⟩ := DataW.trod_int Tryz.underlying3 g0
 match cs, hl with
 | [c], _ => exact ⟨z, e⟩
theorem open_ex_cells {D k : Nat} (hk : k ≤ D) (IH : zkc enc W D k) {cs : List Value} {x : DataW H × List MemPlace} (h : DataW.trod enc Tryz.prog W 0 (fun _ => true) true (2 * k + 3) 28 cs = some x) (hr : Reached 28 x.1) :
  ∃ (t : Ex D (k + 1)) (vt vn vp : Value), cs = [.int .i64 (xAt t), .int .i64 (zfn t), .int .i64 (xN t), .string ⟨(xS t).toArray⟩, vt, vn, vp] ∧ TyRow W D vt (xT t) ∧ SRow W vn (xNs t) ∧ ExRow W D k vp (xPs t) ∧ ExCap W D k vp (xPs t) ∧
   ((xS t).length ≤ 140737488351232 ∧ -9223372036854775808 ≤ xN t ∧ xN t ≤ 9223372036854775807) ∧ (xNs t).length ≤ 140737488351232 ∧ (∀ s ∈ xNs t, s.length ≤ 140737488351232) ∧ TyWf D (xT t) ∧ ExWf D k (xPs t) := by
 obtain ⟨xs, m, hm, rfl, hl, hxl, hf⟩ := DataW.trod_struct Tryz.underlying28 h
 obtain rfl : m = 2 * k + 2 := by omega
 rw [cells_ex] at hl
 match cs, hl with
 | [c0, c1, c2, c3, c4, c5, c6], _ =>
  have hx : xs.length = 7 := hxl
  match xs, hx with
  | [y0, y1, y2, y3, y4, y5, y6], _ =>
   have g0 := hf 0 _ rfl
   have g1 := hf 1 _ rfl
   have g2 := hf 2 _ rfl
   have g3 := hf 3 _ rfl
   have g4 := hf 4 _ rfl
   have g5 := hf 5 _ rfl
   have g6 := hf 6 _ rfl
   simp only [List.getElem?_cons_zero, List.getElem?_cons_succ] at g0 g1 g2 g3 g4 g5 g6
   have hw : ∀ n, (n ∈ y3.1.weights Tryz.prog 9 ∨ n ∈ y4.1.weights Tryz.prog 24 ∨ n ∈ y5.1.weights Tryz.prog 25 ∨ n ∈ y6.1.weights Tryz.prog 26) → n ≤ reachBytes := fun n hn => hr n (by
    show n ∈ DataW.weights Tryz.prog 28 (.agg [y0.1, y1.1, y2.1, y3.1, y4.1, y5.1, y6.1])
    rw [DataW.weights, Tryz.underlying28]
    show n ∈ DataW.weightsEach Tryz.prog [23, 3, 3, 9, 24, 25, 26] [y0.1, y1.1, y2.1, y3.1, y4.1, y5.1, y6.1]
    simp only [DataW.weightsEach, List.mem_append]
    rcases hn with h | h | h | h <;> simp [h])
   obtain ⟨z0, e0⟩ := open_place (cs := [c0]) g0
   obtain ⟨z1, e1, _, _⟩ := DataW.trod_int Tryz.underlying3 g1
   obtain ⟨z2, e2, _, wf2⟩ := DataW.trod_int Tryz.underlying3 g2
   obtain ⟨s, e3, e3', _⟩ := DataW.trod_string Tryz.underlying9 g3
   obtain ⟨ts, r4, r4'⟩ := zkx D c4 _ (DataW.trod_le (show 2 * k + 2 ≤ 2 * D + 2 by omega) g4) (fun n hn => hw n (Or.inr (Or.inl hn)))
   obtain ⟨ns, r5, r5a, r5b⟩ := open_strs (v := c5) g5 (fun n hn => hw n (Or.inr (Or.inr (Or.inl hn))))
   obtain ⟨ps, r6, r6a, r6b⟩ := IH c6 _ g6 (fun n hn => hw n (Or.inr (Or.inr (Or.inr hn))))
   have hs := hw s.data.toList.length (Or.inl (by rw [e3', DataW.weights]; simp))
   unfold reachBytes at hs
   obtain ⟨b1, b2⟩ := int_wf wf2
   obtain rfl : c0 = .int .i64 z0 := (List.cons.inj (show [c0] = [Value.int .i64 z0] from e0)).1
   obtain rfl : c1 = .int .i64 z1 := (List.cons.inj (show [c1] = [Value.int .i64 z1] from e1)).1
   obtain rfl : c2 = .int .i64 z2 := (List.cons.inj (show [c2] = [Value.int .i64 z2] from e2)).1
   obtain rfl : c3 = .string s := (List.cons.inj (show [c3] = [Value.string s] from e3)).1
   exact ⟨(z0, z1, z2, s.data.toList, ts, ns, ps), c4, c5, c6, rfl, r4, r5, r6, r6a, ⟨hs, b1, b2⟩, r5a, r5b, r4', r6b⟩
theorem opens_ex_zero {D : Nat} : zkc enc W D 0 := fun v x h hr => by
 rcases ze4 Tryz.underlying26 cells_ex h hr with rfl | ⟨a, len, cap, m, hm, rfl, hl, hcap, hx⟩
 ·exact ⟨[], ⟨none, 0, rfl⟩, trivial, trivial⟩
 ·obtain rfl : m = 1 := by omega
  rcases Nat.eq_zero_or_pos len with rfl | hpos
  ·exact ⟨[], ⟨some a, cap, rfl⟩, trivial, trivial⟩
  ·obtain ⟨cs, y, hlen, hcell, ht, hry⟩ := hx 0 hpos
   obtain ⟨xs, n, hn, rfl, hl', hxl, hf⟩ := DataW.trod_struct Tryz.underlying28 ht
   obtain rfl : n = 0 := by omega
   have g0 := hf 0 _ rfl
   have hx7 : xs.length = 7 := hxl
   rw [List.getElem?_eq_getElem (by omega)] at g0
   simp [DataW.trod] at g0
theorem opens_ex_succ {D k : Nat} (hk : k ≤ D) (IH : zkc enc W D k) : zkc enc W D (k + 1) := fun v x h hr => by
 rcases ze4 Tryz.underlying26 cells_ex h hr with rfl | ⟨a, len, cap, m, hm, rfl, hl, hcap, hx⟩
 ·exact ⟨[], ⟨none, 0, rfl, fun j t ht => by simp at ht⟩, ⟨none, 0, rfl, by simp, fun j t ht => by simp at ht⟩, by simp, by simp⟩
 ·obtain rfl : m = 2 * k + 3 := by omega
  rw [bytes_ex] at hcap
  unfold reachBytes at hcap
  have each : ∀ i, i < len → ∃ q : Ex D (k + 1) × Value × Value × Value, (W.cell? (a.add (i * 7)) = some (.int .i64 (xAt q.1)) ∧ W.cell? (a.add (i * 7 + 1)) = some (.int .i64 (zfn q.1)) ∧ W.cell? (a.add (i * 7 + 2)) = some (.int .i64 (xN q.1)) ∧ W.cell? (a.add (i * 7 + 3)) = some (.string ⟨(xS q.1).toArray⟩) ∧ W.cell? (a.add (i * 7 + 4)) = some q.2.1 ∧ W.cell? (a.add (i * 7 + 5)) = some q.2.2.1 ∧ W.cell? (a.add (i * 7 + 6)) = some q.2.2.2) ∧
    (TyRow W D q.2.1 (xT q.1) ∧ SRow W q.2.2.1 (xNs q.1) ∧ ExRow W D k q.2.2.2 (xPs q.1) ∧ ExCap W D k q.2.2.2 (xPs q.1)) ∧ ((xS q.1).length ≤ 140737488351232 ∧ -9223372036854775808 ≤ xN q.1 ∧ xN q.1 ≤ 9223372036854775807) ∧ (xNs q.1).length ≤ 140737488351232 ∧ (∀ s ∈ xNs q.1, s.length ≤ 140737488351232) ∧ TyWf D (xT q.1) ∧ ExWf D k (xPs q.1) := by
   intro i hi
   obtain ⟨cs, y, hlen, hcell, ht, hry⟩ := hx i hi
   obtain ⟨t, vt, vn, vp, rfl, r1, r2, r3, r4, r5⟩ := open_ex_cells hk IH ht hry
   exact ⟨(t, vt, vn, vp), ⟨by simpa using hcell 0 (by omega), by simpa using hcell 1 (by omega), by simpa using hcell 2 (by omega), by simpa using hcell 3 (by omega), by simpa using hcell 4 (by omega), by simpa using hcell 5 (by omega), by simpa using hcell 6 (by omega)⟩, ⟨r1, r2, r3, r4⟩, r5⟩
  have hin : Inhabited (Ex D (k + 1) × Value × Value × Value) := ⟨((0, 0, 0, [], [], [], []), .bool true, .bool true, .bool true)⟩
  obtain ⟨q, hq⟩ := choose_lt each
  have hat : ∀ j t, ((List.range len).map fun i => (q i).1)[j]? = some t → ∃ hj : j < len, (q j).1 = t := fun j t ht => by
   rw [List.getElem?_map] at ht
   have hj : j < len := by
    rcases Nat.lt_or_ge j len with h | h
    ·exact h
    ·rw [List.getElem?_eq_none (by simpa using h)] at ht; cases ht
   rw [List.getElem?_range hj] at ht
   exact ⟨hj, by simpa using ht⟩
  have hspot : 0 < len → ∃ b o, a = ⟨b, o, none⟩ := fun h0 => by
   obtain ⟨⟨c00, _⟩, _⟩ := hq 0 h0
   obtain ⟨b, o, sp⟩ := a
   obtain rfl : sp = none := by simpa [Addr.add] using World.cell?_spot c00
   exact ⟨b, o, rfl⟩
  refine ⟨(List.range len).map fun i => (q i).1, ⟨some a, cap, by simp, fun j t ht => ?_⟩, ⟨some a, cap, by simp, by simpa using hl, fun j t ht => ?_⟩, by simp; omega, fun s hs => ?_⟩
  ·obtain ⟨hj, rfl⟩ := hat j t ht
   obtain ⟨⟨c0, c1, c2, c3, c4, c5, c6⟩, ⟨r1, r2, r3, _⟩, _⟩ := hq j hj
   obtain ⟨b, o, rfl⟩ := hspot (by omega)
   rw [Go.WideShapes.add_plain] at c0 c1 c2 c3 c4 c5 c6
   exact ⟨b, o, _, _, _, rfl, c0, by simpa [Nat.add_assoc] using c1, by simpa [Nat.add_assoc] using c2, by simpa [Nat.add_assoc] using c3, by simpa [Nat.add_assoc] using c4, by simpa [Nat.add_assoc] using c5, by simpa [Nat.add_assoc] using c6, r1, r2, r3⟩
  ·obtain ⟨hj, rfl⟩ := hat j t ht
   obtain ⟨⟨c0, c1, c2, c3, c4, c5, c6⟩, ⟨_, _, _, r4⟩, _⟩ := hq j hj
   obtain ⟨b, o, rfl⟩ := hspot (by omega)
   rw [Go.WideShapes.add_plain] at c6
   exact ⟨b, o, _, rfl, by simpa [Nat.add_assoc] using c6, r4⟩
  ·obtain ⟨i, hi, rfl⟩ := List.mem_map.1 hs
   exact (hq i (List.mem_range.1 hi)).2.2
theorem opens_ex {D : Nat} : ∀ k, k ≤ D → zkc enc W D k
 | 0, _ => opens_ex_zero
 | k + 1, h => opens_ex_succ (by omega) (opens_ex k (by omega))
theorem open_st_cells {D k : Nat} (hk : k ≤ D) (IH : zl0 enc W D D k) {cs : List Value} {x : DataW H × List MemPlace} (h : DataW.trod enc Tryz.prog W 0 (fun _ => true) true (2 * k + 3) 105 cs = some x) (hr : Reached 105 x.1) :
  ∃ (t : St D D (k + 1)) (vt vx vb ve : Value), cs = [.int .i64 (sAt t), .int .i64 (zhh t), .string ⟨(zc7 t).toArray⟩, vt, vx, vb, ve] ∧ TyRow W D vt (sT t) ∧ (ExRow W D D vx (sX t) ∧ ExCap W D D vx (sX t)) ∧ StRow W D D k vb (sB t) ∧ StRow W D D k ve (sE t) ∧
   (zc7 t).length ≤ 140737488351232 ∧ TyWf D (sT t) ∧ ExWf D D (sX t) ∧ StWf D D k (sB t) ∧ StWf D D k (sE t) := by
 obtain ⟨xs, m, hm, rfl, hl, hxl, hf⟩ := DataW.trod_struct Tryz.underlying105 h
 obtain rfl : m = 2 * k + 2 := by omega
 rw [cells_st] at hl
 match cs, hl with
 | [c0, c1, c2, c3, c4, c5, c6], _ =>
  have hx : xs.length = 7 := hxl
  match xs, hx with
  | [y0, y1, y2, y3, y4, y5, y6], _ =>
   have g0 := hf 0 _ rfl
   have g1 := hf 1 _ rfl
   have g2 := hf 2 _ rfl
   have g3 := hf 3 _ rfl
   have g4 := hf 4 _ rfl
   have g5 := hf 5 _ rfl
   have g6 := hf 6 _ rfl
   simp only [List.getElem?_cons_zero, List.getElem?_cons_succ] at g0 g1 g2 g3 g4 g5 g6
   have hw : ∀ n, (n ∈ y2.1.weights Tryz.prog 9 ∨ n ∈ y3.1.weights Tryz.prog 24 ∨ n ∈ y4.1.weights Tryz.prog 26 ∨ n ∈ y5.1.weights Tryz.prog 40 ∨ n ∈ y6.1.weights Tryz.prog 40) → n ≤ reachBytes := fun n hn => hr n (by
    show n ∈ DataW.weights Tryz.prog 105 (.agg [y0.1, y1.1, y2.1, y3.1, y4.1, y5.1, y6.1])
    rw [DataW.weights, Tryz.underlying105]
    show n ∈ DataW.weightsEach Tryz.prog [23, 3, 9, 24, 26, 40, 40] [y0.1, y1.1, y2.1, y3.1, y4.1, y5.1, y6.1]
    simp only [DataW.weightsEach, List.mem_append]
    rcases hn with h | h | h | h | h <;> simp [h])
   obtain ⟨z0, e0⟩ := open_place (cs := [c0]) g0
   obtain ⟨z1, e1, _, _⟩ := DataW.trod_int Tryz.underlying3 g1
   obtain ⟨s, e2, e2', _⟩ := DataW.trod_string Tryz.underlying9 g2
   obtain ⟨ts, r3, r3'⟩ := zkx D c3 _ (DataW.trod_le (show 2 * k + 2 ≤ 2 * D + 2 by omega) g3) (fun n hn => hw n (Or.inr (Or.inl hn)))
   obtain ⟨es, r4, r4a, r4b⟩ := opens_ex D (Nat.le_refl _) c4 _ (DataW.trod_le (show 2 * k + 2 ≤ 2 * D + 2 by omega) g4) (fun n hn => hw n (Or.inr (Or.inr (Or.inl hn))))
   obtain ⟨bs, r5, r5b⟩ := IH c5 _ g5 (fun n hn => hw n (Or.inr (Or.inr (Or.inr (Or.inl hn)))))
   obtain ⟨os, r6, r6b⟩ := IH c6 _ g6 (fun n hn => hw n (Or.inr (Or.inr (Or.inr (Or.inr hn)))))
   have hs := hw s.data.toList.length (Or.inl (by rw [e2', DataW.weights]; simp))
   unfold reachBytes at hs
   obtain rfl : c0 = .int .i64 z0 := (List.cons.inj (show [c0] = [Value.int .i64 z0] from e0)).1
   obtain rfl : c1 = .int .i64 z1 := (List.cons.inj (show [c1] = [Value.int .i64 z1] from e1)).1
   obtain rfl : c2 = .string s := (List.cons.inj (show [c2] = [Value.string s] from e2)).1
   exact ⟨(z0, z1, s.data.toList, ts, es, bs, os), c3, c4, c5, c6, rfl, r3, ⟨r4, r4a⟩, r5, r6, hs, r3', r4b, r5b, r6b⟩
theorem opens_st_zero {D : Nat} : zl0 enc W D D 0 := fun v x h hr => by
 rcases ze4 Tryz.underlying40 cells_st h hr with rfl | ⟨a, len, cap, m, hm, rfl, hl, hcap, hx⟩
 ·exact ⟨[], ⟨none, 0, rfl⟩, trivial⟩
 ·obtain rfl : m = 1 := by omega
  rcases Nat.eq_zero_or_pos len with rfl | hpos
  ·exact ⟨[], ⟨some a, cap, rfl⟩, trivial⟩
  ·obtain ⟨cs, y, hlen, hcell, ht, hry⟩ := hx 0 hpos
   obtain ⟨xs, n, hn, rfl, hl', hxl, hf⟩ := DataW.trod_struct Tryz.underlying105 ht
   obtain rfl : n = 0 := by omega
   have g0 := hf 0 _ rfl
   have hx7 : xs.length = 7 := hxl
   rw [List.getElem?_eq_getElem (by omega)] at g0
   simp [DataW.trod] at g0
theorem opens_st_succ {D k : Nat} (hk : k ≤ D) (IH : zl0 enc W D D k) : zl0 enc W D D (k + 1) := fun v x h hr => by
 rcases ze4 Tryz.underlying40 cells_st h hr with rfl | ⟨a, len, cap, m, hm, rfl, hl, hcap, hx⟩
 ·exact ⟨[], ⟨none, 0, rfl, fun j t ht => by simp at ht⟩, by simp, by simp⟩
 ·obtain rfl : m = 2 * k + 3 := by omega
  rw [bytes_st] at hcap
  unfold reachBytes at hcap
  have each : ∀ i, i < len → ∃ q : St D D (k + 1) × Value × Value × Value × Value, (W.cell? (a.add (i * 7)) = some (.int .i64 (sAt q.1)) ∧ W.cell? (a.add (i * 7 + 1)) = some (.int .i64 (zhh q.1)) ∧ W.cell? (a.add (i * 7 + 2)) = some (.string ⟨(zc7 q.1).toArray⟩) ∧ W.cell? (a.add (i * 7 + 3)) = some q.2.1 ∧ W.cell? (a.add (i * 7 + 4)) = some q.2.2.1 ∧ W.cell? (a.add (i * 7 + 5)) = some q.2.2.2.1 ∧ W.cell? (a.add (i * 7 + 6)) = some q.2.2.2.2) ∧
    (TyRow W D q.2.1 (sT q.1) ∧ (ExRow W D D q.2.2.1 (sX q.1) ∧ ExCap W D D q.2.2.1 (sX q.1)) ∧ StRow W D D k q.2.2.2.1 (sB q.1) ∧ StRow W D D k q.2.2.2.2 (sE q.1)) ∧ (zc7 q.1).length ≤ 140737488351232 ∧ TyWf D (sT q.1) ∧ ExWf D D (sX q.1) ∧ StWf D D k (sB q.1) ∧ StWf D D k (sE q.1) := by
   intro i hi
   obtain ⟨cs, y, hlen, hcell, ht, hry⟩ := hx i hi
   obtain ⟨t, vt, vx, vb, ve, rfl, r1, r2, r3, r4, r5⟩ := open_st_cells hk IH ht hry
   exact ⟨(t, vt, vx, vb, ve), ⟨by simpa using hcell 0 (by omega), by simpa using hcell 1 (by omega), by simpa using hcell 2 (by omega), by simpa using hcell 3 (by omega), by simpa using hcell 4 (by omega), by simpa using hcell 5 (by omega), by simpa using hcell 6 (by omega)⟩, ⟨r1, r2, r3, r4⟩, r5⟩
  have hin : Inhabited (St D D (k + 1) × Value × Value × Value × Value) := ⟨((0, 0, [], [], [], [], []), .bool true, .bool true, .bool true, .bool true)⟩
  obtain ⟨q, hq⟩ := choose_lt each
  have hat : ∀ j t, ((List.range len).map fun i => (q i).1)[j]? = some t → ∃ hj : j < len, (q j).1 = t := fun j t ht => by
   rw [List.getElem?_map] at ht
   have hj : j < len := by
    rcases Nat.lt_or_ge j len with h | h
    ·exact h
    ·rw [List.getElem?_eq_none (by simpa using h)] at ht; cases ht
   rw [List.getElem?_range hj] at ht
   exact ⟨hj, by simpa using ht⟩
  have hspot : 0 < len → ∃ b o, a = ⟨b, o, none⟩ := fun h0 => by
   obtain ⟨⟨c00, _⟩, _⟩ := hq 0 h0
   obtain ⟨b, o, sp⟩ := a
   obtain rfl : sp = none := by simpa [Addr.add] using World.cell?_spot c00
   exact ⟨b, o, rfl⟩
  refine ⟨(List.range len).map fun i => (q i).1, ⟨some a, cap, by simp, fun j t ht => ?_⟩, by simp; omega, fun s hs => ?_⟩
  ·obtain ⟨hj, rfl⟩ := hat j t ht
   obtain ⟨⟨c0, c1, c2, c3, c4, c5, c6⟩, ⟨r1, r2, r3, r4⟩, _⟩ := hq j hj
   obtain ⟨b, o, rfl⟩ := hspot (by omega)
   rw [Go.WideShapes.add_plain] at c0 c1 c2 c3 c4 c5 c6
   exact ⟨b, o, _, _, _, _, rfl, c0, by simpa [Nat.add_assoc] using c1, by simpa [Nat.add_assoc] using c2, by simpa [Nat.add_assoc] using c3, by simpa [Nat.add_assoc] using c4, by simpa [Nat.add_assoc] using c5, by simpa [Nat.add_assoc] using c6, r1, r2, r3, r4⟩
  ·obtain ⟨i, hi, rfl⟩ := List.mem_map.1 hs
   exact (hq i (List.mem_range.1 hi)).2.2
theorem opens_st {D : Nat} : ∀ k, k ≤ D → zl0 enc W D D k
 | 0, _ => opens_st_zero
 | k + 1, h => opens_st_succ (by omega) (opens_st k (by omega))
theorem open_stmts {a : Option Addr} {len cap : Nat} {d : DataW H} {ps : List MemPlace} (h : DataW.Trod enc Tryz.prog W 0 (fun _ => true) true 40 (.slice a len cap) d ps) (hr : Reached 40 d) :
  ∃ k0 : Nat, ∀ k, k0 ≤ k → ∃ ss : List (St k k k), len = ss.length ∧ StRow W k k k (.slice a ss.length cap) ss ∧ StWf k k k ss := by
 obtain ⟨fuel, hf⟩ := h
 refine ⟨fuel, fun k hk => ?_⟩
 have hf' := DataW.trod_le (show fuel ≤ 2 * k + 2 by omega) hf
 obtain ⟨ss, r1, r2⟩ := opens_st (D := k) k (Nat.le_refl _) (.slice a len cap) (d, ps) hf' hr
 obtain ⟨p, c, e⟩ := r1.slice
 injection e with e1 e2 e3
 subst e1 e2 e3
 exact ⟨ss, rfl, r1, r2⟩
end
open Go Go.RowKit Lx
def szX (D : Nat) : (d : Nat) → Ex D d → Nat
 | 0, _ => 0
 | d + 1, x => 1 + (xS x).length + (xNs x).length + zgs (xNs x) + szL D (xT x) + ((xPs x).map (szX D d)).sum
def ze9 (D d : Nat) (xs : List (Ex D d)) : Nat := (xs.map (szX D d)).sum
theorem szXL_take {D d : Nat} {xs : List (Ex D d)} {k : Nat} (h : k < xs.length) : ze9 D d (xs.take (k + 1)) = ze9 D d (xs.take k) + szX D d xs[k] := by
 rw [List.take_succ_eq_append_getElem h]; unfold ze9; rw [List.map_append, List.sum_append]; simp
def ExValD (W : World) (D : Nat) : (d : Nat) → Value → Ex D d → Prop
 | 0, _, _ => False
 | d + 1, v, x => ExVal W D d v x
theorem ExValD.below {w w' : World} {D : Nat} (hb : Below w.heap.size w w') : ∀ {d : Nat} {v : Value} {x : Ex D d}, ExValD w D d v x → ExValD w' D d v x
 | 0, _, _, h => h
 | _ + 1, _, _, h => ExVal.below h hb
def ExCell (W : World) (pp : Option Addr) (k : Nat) (v : Value) : Prop :=
 ∃ (g o : Nat) (A K N : Int) (S : ByteArray) (pt pn p3 : Option Addr) (nt ct nn cn n3 c3 : Nat), pp = some ⟨g, o, none⟩ ∧ v = .agg #[.int .i64 A, .int .i64 K, .int .i64 N, .string S, .slice pt nt ct, .slice pn nn cn, .slice p3 n3 c3] ∧
  W.cell? ⟨g, o + k * 7, none⟩ = some (.int .i64 A) ∧ W.cell? ⟨g, o + k * 7 + 1, none⟩ = some (.int .i64 K) ∧ W.cell? ⟨g, o + k * 7 + 2, none⟩ = some (.int .i64 N) ∧ W.cell? ⟨g, o + k * 7 + 3, none⟩ = some (.string S) ∧ W.cell? ⟨g, o + k * 7 + 4, none⟩ = some (.slice pt nt ct) ∧ W.cell? ⟨g, o + k * 7 + 5, none⟩ = some (.slice pn nn cn) ∧ W.cell? ⟨g, o + k * 7 + 6, none⟩ = some (.slice p3 n3 c3)
theorem ExRow.at {w : World} {D : Nat} : ∀ {d : Nat} {pp : Option Addr} {cp : Nat} {xs : List (Ex D d)}, ExRow w D d (.slice pp xs.length cp) xs → ∀ (k : Nat) (hk : k < xs.length), ∃ v, ExCell w pp k v ∧ ExValD w D d v xs[k]
 | 0, _, _, xs, _, k, hk => by
  match xs, hk with
  | t :: _, _ => exact nomatch t
 | d + 1, pp, cp, xs, h, k, hk => by
  obtain ⟨p, c, e, hp⟩ := h
  injection e with e1 e2 e3
  subst e1
  obtain ⟨g, o, vt, vn, vp, rfl, a0, a1, a2, a3, a4, a5, a6, r1, r2, r3⟩ := hp k xs[k] (by simp)
  obtain ⟨pt, ct, rfl⟩ := r1.slice
  obtain ⟨pn, cn, rfl, h2⟩ := r2
  obtain ⟨p3, c3, rfl⟩ := r3.slice
  exact ⟨_, ⟨g, o, _, _, _, _, pt, pn, p3, _, ct, _, cn, _, c3, rfl, rfl, a0, a1, a2, a3, a4, a5, a6⟩, pt, pn, p3, ct, cn, c3, rfl, r1, ⟨pn, cn, rfl, h2⟩, r3⟩
def WfX (D : Nat) : (d : Nat) → Ex D d → Prop
 | 0, _ => False
 | d + 1, x => (xS x).length ≤ 140737488351232 ∧ (xNs x).length ≤ 140737488351232 ∧ (∀ s ∈ xNs x, s.length ≤ 140737488351232) ∧ ((xT x).length ≤ 140737488351232 ∧ ∀ t ∈ xT x, WfD D t) ∧ (xPs x).length ≤ 140737488351232 ∧ ∀ u ∈ xPs x, WfX D d u
theorem ExWf.each {D : Nat} : ∀ {d : Nat} {xs : List (Ex D d)}, ExWf D d xs → xs.length ≤ 140737488351232 ∧ ∀ u ∈ xs, WfX D d u
 | 0, [], _ => ⟨by simp, by simp⟩
 | 0, t :: _, _ => nomatch t
 | d + 1, xs, h => ⟨h.1, fun u hu => by
  obtain ⟨h1, h2, h3, h4, h5⟩ := h.2 u hu
  obtain ⟨h6, h7⟩ := ExWf.each h5
  exact ⟨h1.1, h2, h3, TyWf.each h4, h6, h7⟩⟩
abbrev zbm (A K N : Int) (S : ByteArray) (pt pn pp : Option Addr) (nt nn np ct cn cp : Nat) : Obj := .cells #[.int .i64 A, .int .i64 K, .int .i64 N, .string S, .slice pt nt ct, .slice pn nn cn, .slice pp np cp] 28
theorem zam {A K N : Int} {S : ByteArray} {pt pn pp : Option Addr} {nt nn np ct cn cp : Nat} {w wr : World} (hb : Below (w.alloc (zbm A K N S pt pn pp nt nn np ct cn cp)).heap.size (w.alloc (zbm A K N S pt pn pp nt nn np ct cn cp)) wr) :
  wr.cell? ⟨w.heap.size, 0, none⟩ = some (.int .i64 A) ∧ wr.cell? ⟨w.heap.size, 1, none⟩ = some (.int .i64 K) ∧ wr.cell? ⟨w.heap.size, 2, none⟩ = some (.int .i64 N) ∧ wr.cell? ⟨w.heap.size, 3, none⟩ = some (.string S) ∧ wr.cell? ⟨w.heap.size, 4, none⟩ = some (.slice pt nt ct) ∧ wr.cell? ⟨w.heap.size, 5, none⟩ = some (.slice pn nn cn) ∧ wr.cell? ⟨w.heap.size, 6, none⟩ = some (.slice pp np cp) := by
 have h : ∀ j, wr.cell? ⟨w.heap.size, j, none⟩ = (#[Value.int .i64 A, .int .i64 K, .int .i64 N, .string S, .slice pt nt ct, .slice pn nn cn, .slice pp np cp])[j]? := fun j => by
  rw [hb.cell (p := ⟨w.heap.size, j, none⟩) (by simp), World.cell?_alloc_at _ _ _ _ rfl]
 exact ⟨h 0, h 1, h 2, h 3, h 4, h 5, h 6⟩
def SizeXAt (D d : Nat) : Prop := ∀ (t : Ex D d) (v : Value) (q : Int) (most : Nat) (w : World), q = most → ExValD w D d v t → WfX D d t → 1 ≤ most → most ≤ 100000 →
 Calls Tryz.prog 6 #[v, .int .i64 q] w fun e w' => (∃ n : Nat, e = .returned (.int .i64 (n : Nat)) ∧ n ≤ most + 422212465053696 ∧ (n < most → n = szX D d t)) ∧ Below w.heap.size w w'
theorem sizeX_step (D d : Nat) (IH : SizeXAt D d) : SizeXAt D (d + 1) := fun t v q most w hq hv hw h1 hmx => by
 subst hq
 obtain ⟨pt, pn, pp, ct, cn, cp, rfl, r1, r2, r3⟩ := hv
 obtain ⟨w1, w2, w3, ⟨w4, w5⟩, w6, w7⟩ := hw
 obtain ⟨A, K, N, S, ts, ns, xs⟩ := t
 dsimp only [xAt, zfn, xN, xS, xT, xNs, xPs] at *
 have hbA : Below w.heap.size w (w.alloc (zbm A K N ⟨S.toArray⟩ pt pn pp ts.length ns.length xs.length ct cn cp)) := (Below.refl _ _).alloc (Nat.le_refl _) _
 obtain ⟨p, c, e, hp⟩ := r2
 injection e with e1 e2 e3
 subst e1 e3
 have HN : Hid (∀ k (hk : k < ns.length), ∃ g o, pn = some ⟨g, o, none⟩ ∧ w.cell? ⟨g, o + k, none⟩ = some (.string ⟨ns[k].toArray⟩) ∧ ns[k].length ≤ 140737488351232) := fun k hk => by
  obtain ⟨g, o, e, a⟩ := hp k ns[k] (by simp)
  exact ⟨g, o, e, a, w3 _ (by simp)⟩
 have HTy : Hid (∀ k (hk : k < ts.length), ∃ u, zhu w pt k u ∧ ∀ (q : Int) (most : Nat) W, q = most → Below w.heap.size w W → 1 ≤ most → most ≤ 100000 → Calls Tryz.prog 29 #[u, .int .i64 q] W fun e w' => (∃ n : Nat, e = .returned (.int .i64 (n : Nat)) ∧ n ≤ most + 422212465053696 ∧ (n < most → n = szD D ts[k])) ∧ Below W.heap.size W w') := fun k hk => by
  obtain ⟨u, hu, hv⟩ := r1.at k hk
  exact ⟨u, hu, fun q most W hq hW h1 h2 => size_any D _ u q most W hq (TyValD.below hW hv) (w5 _ (by simp)) h1 h2⟩
 have HP : Hid (∀ k (hk : k < xs.length), ∃ u, ExCell w pp k u ∧ ∀ (q : Int) (most : Nat) W, q = most → Below w.heap.size w W → 1 ≤ most → most ≤ 100000 → Calls Tryz.prog 6 #[u, .int .i64 q] W fun e w' => (∃ n : Nat, e = .returned (.int .i64 (n : Nat)) ∧ n ≤ most + 422212465053696 ∧ (n < most → n = szX D d xs[k])) ∧ Below W.heap.size W w') := fun k hk => by
  obtain ⟨u, hu, hv⟩ := r3.at k hk
  exact ⟨u, hu, fun q most W hq hW h1 h2 => IH _ u q most W hq (ExValD.below hW hv) (w7 _ (by simp)) h1 h2⟩
 have HSZ : Hid (szX D (d + 1) (A, K, N, S, ts, ns, xs) = 1 + S.length + ns.length + zgs ns + szL D ts + ze9 D d xs) := rfl
 have HA := za3 hbA
 have hS : S.toArray.size = S.length := by simp
 have hS' : ByteArray.size ⟨S.toArray⟩ = S.length := hS
 clear hp r1 r3 IH hbA w3 w5 w7
 go_enter Tryz.func6, Tryz.ntmps6
 go_upto_block 0 with fail
 go_cut [5] (fun nn wx => ∃ (m1 : Nat) (Wy : World), nn = .int .i64 m1 ∧ Wy = wx ∧ m1 ≤ most + 422212465053696 ∧ Hid (m1 < most → m1 = 1 + S.length + ns.length + zgs ns) ∧ Hid (Below (w.alloc (zbm A K N ⟨S.toArray⟩ pt pn pp ts.length ns.length xs.length ct cn cp)).heap.size (w.alloc (zbm A K N ⟨S.toArray⟩ pt pn pp ts.length ns.length xs.length ct cn cp)) Wy))
 case first =>
  go_wp2_with fail
  go_loopg [5, 6] ns.length (fun gk nn i wr => ∃ k m : Nat, i = .int .i64 k ∧ nn = .int .i64 m ∧ k + gk = ns.length ∧ m ≤ most + 422212465053696 ∧ Hid (m < most → m = 1 + S.length + ns.length + zgs (ns.take k)) ∧ Hid (Below (w.alloc (zbm A K N ⟨S.toArray⟩ pt pn pp ts.length ns.length xs.length ct cn cp)).heap.size (w.alloc (zbm A K N ⟨S.toArray⟩ pt pn pp ts.length ns.length xs.length ct cn cp)) wr))
  case atStart => exact ⟨0, 1 + S.length + ns.length, rfl, by go_num, by omega, by omega, (by show _ → _; intro _; simp [zgs]), Below.refl _ _⟩
  case round =>
   obtain ⟨k, m, rfl, rfl, hk, hm, HM, HB⟩ := hrel
   obtain ⟨d0, d1, d2, d3, d4, d5, d6⟩ := zam (za0 HB)
   by_cases hc : k < ns.length ∧ m < most
   ·obtain ⟨hlt, hmm⟩ := hc
    obtain ⟨g, o, rfl, a0, hl⟩ := za0 HN k hlt
    have b0 := (((za0 HA).trans ((za0 HB).mono (by simp))).cell (p := ⟨g, _, none⟩) (za2 a0)).trans a0
    have hlt' : (k : Int) < (ns.length : Int) := by omega
    have hmm' : (m : Int) < (most : Int) := by omega
    have hz : ByteArray.size ⟨ns[k].toArray⟩ = ns[k].length := by show ns[k].toArray.size = _; simp
    clear a0
    go_wp2
    go_roundg (ns.length - (k + 1))
    case measure => omega
    case rel => exact ⟨k + 1, m + ns[k].length, by go_num, by go_num, by omega, by omega, (by have := za0 HM hmm; show _ → _; intro _; rw [sumL_take hlt]; omega), za0 HB⟩
   ·have HM2 : Hid (m < most → m = 1 + S.length + ns.length + zgs ns) := fun h => by
     have hkl : k = ns.length := by omega
     have := za0 HM h
     rw [hkl, List.take_length] at this
     exact this
    have hx : ((k : Int) < (ns.length : Int) ∧ (most : Int) ≤ (m : Int)) ∨ ¬ (k : Int) < (ns.length : Int) := by omega
    clear hc HM
    rcases hx with ⟨hlt, hmm⟩ | hlt
    all_goals
     go_wp2
     go_meet
     case rel => exact ⟨m, _, rfl, rfl, hm, za0 HM2, za0 HB⟩
 case rest =>
  obtain ⟨m1, W1, rfl, rfl, hm1, HM1, HB1⟩ := hcut
  clear HN
  go_upto_block 2 with fail
  go_cut [5] (fun nn wx => ∃ (m1 : Nat) (Wy : World), nn = .int .i64 m1 ∧ Wy = wx ∧ m1 ≤ most + 422212465053696 ∧ Hid (m1 < most → m1 = 1 + S.length + ns.length + zgs ns + szL D ts) ∧ Hid (Below (w.alloc (zbm A K N ⟨S.toArray⟩ pt pn pp ts.length ns.length xs.length ct cn cp)).heap.size (w.alloc (zbm A K N ⟨S.toArray⟩ pt pn pp ts.length ns.length xs.length ct cn cp)) Wy))
  case first =>
   go_wp2_with fail
   go_loopg [5, 7] ts.length (fun gk nn i wr => ∃ k m : Nat, i = .int .i64 k ∧ nn = .int .i64 m ∧ k + gk = ts.length ∧ m ≤ most + 422212465053696 ∧ Hid (m < most → m = 1 + S.length + ns.length + zgs ns + szL D (ts.take k)) ∧ Hid (Below (w.alloc (zbm A K N ⟨S.toArray⟩ pt pn pp ts.length ns.length xs.length ct cn cp)).heap.size (w.alloc (zbm A K N ⟨S.toArray⟩ pt pn pp ts.length ns.length xs.length ct cn cp)) wr))
   case atStart => exact ⟨0, m1, rfl, rfl, by omega, hm1, (by show _ → _; intro h; have := za0 HM1 h; simp [szL]; omega), za0 HB1⟩
   case round =>
    obtain ⟨j, n, rfl, rfl, hj, hn, HN, HB⟩ := hrel
    obtain ⟨d0, d1, d2, d3, d4, d5, d6⟩ := zam (za0 HB)
    by_cases hc : j < ts.length ∧ n < most
    ·obtain ⟨hlt, hnn⟩ := hc
     obtain ⟨u, ⟨g, o, K', S', qn, qe, q3, nn, c1, ne, c2, n3, c3, rfl, rfl, a0, a1, a2, a3, a4⟩, HI⟩ := za0 HTy j hlt
     have hb := (za0 HA).trans ((za0 HB).mono (by simp))
     have b0 := (hb.cell (p := ⟨g, _, none⟩) (za2 a0)).trans a0
     have b1 := (hb.cell (p := ⟨g, _, none⟩) (za2 a1)).trans a1
     have b2 := (hb.cell (p := ⟨g, _, none⟩) (za2 a2)).trans a2
     have b3 := (hb.cell (p := ⟨g, _, none⟩) (za2 a3)).trans a3
     have b4 := (hb.cell (p := ⟨g, _, none⟩) (za2 a4)).trans a4
     have hlt' : (j : Int) < (ts.length : Int) := by omega
     have hnn' : (n : Int) < (most : Int) := by omega
     have CL := za3 (HI ((most : Int) - n) (most - n) wr (by omega) hb (by omega) (by omega))
     clear HI a0 a1 a2 a3 a4 hb
     go_wp2_with (go_at_call 29; refine (za0 CL).mono ?_; clear CL; rintro e w1 ⟨⟨z, rfl, hz1, hz2⟩, hb1⟩)
     go_roundg (ts.length - (j + 1))
     case measure => omega
     case rel => exact ⟨j + 1, n + z, by go_num, by go_num, by omega, by omega, (by have := za0 HN hnn; show _ → _; intro h; have := hz2 (by omega); rw [zgi hlt]; omega), ((za0 HB).trans (hb1.mono (za0 HB).size))⟩
    ·have HM3 : Hid (n < most → n = 1 + S.length + ns.length + zgs ns + szL D ts) := fun h => by
      have hjl : j = ts.length := by omega
      have := za0 HN h
      rw [hjl, List.take_length] at this
      exact this
     have hx : ((j : Int) < (ts.length : Int) ∧ (most : Int) ≤ (n : Int)) ∨ ¬ (j : Int) < (ts.length : Int) := by omega
     clear hc HN
     rcases hx with ⟨hlt, hmm⟩ | hlt
     all_goals
      go_wp2
      go_meet
      case rel => exact ⟨n, _, rfl, rfl, hn, za0 HM3, za0 HB⟩
  case rest =>
   clear hm1 HM1 HB1 HTy
   obtain ⟨m1, W1, rfl, rfl, hm1, HM1, HB1⟩ := hcut
   go_wp2_with fail
   go_loopg [5, 8] xs.length (fun gk nn i wr => ∃ k m : Nat, i = .int .i64 k ∧ nn = .int .i64 m ∧ k + gk = xs.length ∧ m ≤ most + 422212465053696 ∧ Hid (m < most → m = 1 + S.length + ns.length + zgs ns + szL D ts + ze9 D d (xs.take k)) ∧ Hid (Below (w.alloc (zbm A K N ⟨S.toArray⟩ pt pn pp ts.length ns.length xs.length ct cn cp)).heap.size (w.alloc (zbm A K N ⟨S.toArray⟩ pt pn pp ts.length ns.length xs.length ct cn cp)) wr))
   case atStart => exact ⟨0, m1, rfl, rfl, by omega, hm1, (by show _ → _; intro h; have := za0 HM1 h; simp [ze9]; omega), za0 HB1⟩
   case round =>
    obtain ⟨j2, n2, rfl, rfl, hj2, hn2, HN2, HB⟩ := hrel
    obtain ⟨d0, d1, d2, d3, d4, d5, d6⟩ := zam (za0 HB)
    by_cases hc : j2 < xs.length ∧ n2 < most
    ·obtain ⟨hlt, hnn⟩ := hc
     obtain ⟨u, ⟨g, o, A', K', N', S', qt, qn, q3, nt, c1, nn, c2, n3, c3, rfl, rfl, a0, a1, a2, a3, a4, a5, a6⟩, HI⟩ := za0 HP j2 hlt
     have hb := (za0 HA).trans ((za0 HB).mono (by simp))
     have b0 := (hb.cell (p := ⟨g, _, none⟩) (za2 a0)).trans a0
     have b1 := (hb.cell (p := ⟨g, _, none⟩) (za2 a1)).trans a1
     have b2 := (hb.cell (p := ⟨g, _, none⟩) (za2 a2)).trans a2
     have b3 := (hb.cell (p := ⟨g, _, none⟩) (za2 a3)).trans a3
     have b4 := (hb.cell (p := ⟨g, _, none⟩) (za2 a4)).trans a4
     have b5 := (hb.cell (p := ⟨g, _, none⟩) (za2 a5)).trans a5
     have b6 := (hb.cell (p := ⟨g, _, none⟩) (za2 a6)).trans a6
     have hlt' : (j2 : Int) < (xs.length : Int) := by omega
     have hnn' : (n2 : Int) < (most : Int) := by omega
     have CL := za3 (HI ((most : Int) - n2) (most - n2) wr (by omega) hb (by omega) (by omega))
     clear HI a0 a1 a2 a3 a4 a5 a6 hb
     go_wp2_with (go_at_call 6; refine (za0 CL).mono ?_; clear CL; rintro e w1 ⟨⟨z, rfl, hz1, hz2⟩, hb1⟩)
     go_roundg (xs.length - (j2 + 1))
     case measure => omega
     case rel => exact ⟨j2 + 1, n2 + z, by go_num, by go_num, by omega, by omega, (by have := za0 HN2 hnn; show _ → _; intro h; have := hz2 (by omega); rw [szXL_take hlt]; omega), ((za0 HB).trans (hb1.mono (za0 HB).size))⟩
    ·have HE : Hid (n2 < most → n2 = szX D (d + 1) (A, K, N, S, ts, ns, xs)) := fun h => by
      have hjl : j2 = xs.length := by omega
      have := za0 HN2 h
      rw [hjl, List.take_length] at this
      rw [za0 HSZ]; exact this
     have hx : ((j2 : Int) < (xs.length : Int) ∧ (most : Int) ≤ (n2 : Int)) ∨ ¬ (j2 : Int) < (xs.length : Int) := by omega
     clear hc HN2 HP
     rcases hx with ⟨hlt, hmm⟩ | hlt
     all_goals
      go_wp2
      go_ret
      exact ⟨⟨n2, rfl, hn2, za0 HE⟩, (za0 HA).trans ((za0 HB).mono (by simp))⟩
theorem sizeX_any (D : Nat) : ∀ d, SizeXAt D d
 | 0 => fun t => nomatch t
 | d + 1 => sizeX_step D d (sizeX_any D d)
def zey (D d : Nat) : (m : Nat) → List (St D d m) → Nat
 | 0, _ => 0
 | m + 1, ss => (ss.map fun s => 1 + (zc7 s).length + szL D (sT s) + ze9 D d (sX s) + zey D d m (sB s) + zey D d m (sE s)).sum
abbrev SizeTo (F : FuncId) (v : Value) (z : Nat) (w : World) : Prop := ∀ (q : Int) (most : Nat) (W : World), q = most → Below w.heap.size w W → 1 ≤ most → most ≤ 100000 → Calls Tryz.prog F #[v, .int .i64 q] W fun e w' => (∃ n : Nat, e = .returned (.int .i64 (n : Nat)) ∧ n ≤ most + 422212465053696 ∧ (n < most → n = z)) ∧ Below W.heap.size W w'
def sumR (zs : Nat → Nat) (k : Nat) : Nat := ((List.range k).map zs).sum
theorem sumR_succ (zs : Nat → Nat) (k : Nat) : sumR zs (k + 1) = sumR zs k + zs k := by unfold sumR; rw [List.range_succ, List.map_append, List.sum_append]; simp
theorem sizeS_run (D d : Nat) (p : Option Addr) (n c most : Nat) (w : World) (zs : Nat → Nat) (hn : n ≤ 140737488351232) (h1 : 1 ≤ most) (hmx : most ≤ 100000)
  (hP : ∀ k, k < n → ∃ (g o : Nat) (S : Bs) (pt px pb pe : Option Addr) (ts : List (Ty D)) (xs : List (Ex D d)) (nb ne ct cx cb ce zb ze : Nat), p = some ⟨g, o, none⟩ ∧
   w.cell? ⟨g, o + k * 7 + 2, none⟩ = some (.string ⟨S.toArray⟩) ∧ w.cell? ⟨g, o + k * 7 + 3, none⟩ = some (.slice pt ts.length ct) ∧ w.cell? ⟨g, o + k * 7 + 4, none⟩ = some (.slice px xs.length cx) ∧ w.cell? ⟨g, o + k * 7 + 5, none⟩ = some (.slice pb nb cb) ∧ w.cell? ⟨g, o + k * 7 + 6, none⟩ = some (.slice pe ne ce) ∧
   (S.length ≤ 140737488351232 ∧ ts.length ≤ 140737488351232 ∧ xs.length ≤ 140737488351232) ∧ (∀ j (hj : j < ts.length), ∃ u, zhu w pt j u ∧ SizeTo 29 u (szD D ts[j]) w) ∧ (∀ j (hj : j < xs.length), ∃ u, ExCell w px j u ∧ SizeTo 6 u (szX D d xs[j]) w) ∧
   SizeTo 14 (.slice pb nb cb) zb w ∧ SizeTo 14 (.slice pe ne ce) ze w ∧ zs k = 1 + S.length + szL D ts + ze9 D d xs + zb + ze) :
  Calls Tryz.prog 14 #[.slice p n c, .int .i64 (most : Int)] w fun e w' => (∃ m : Nat, e = .returned (.int .i64 (m : Nat)) ∧ m ≤ most + 422212465053696 ∧ (m < most → m = sumR zs n)) ∧ Below w.heap.size w w' := by
 have HP := za3 hP
 clear hP
 go_enter Tryz.func14, Tryz.ntmps14
 go_wp2
 go_loopw [5, 6] (fun nn i wr => ∃ k m : Nat, i = .int .i64 k ∧ nn = .int .i64 m ∧ k ≤ n ∧ m ≤ most + 422212465053696 ∧ Hid (m < most → m = sumR zs k) ∧ Hid (Below w.heap.size w wr)) (fun _ i _ => n - (intOf i).toNat)
 case atStart => exact ⟨0, 0, rfl, rfl, by omega, by omega, (by show _ → _; intro _; rfl), Below.refl _ _⟩
 case round =>
  obtain ⟨k, m, rfl, rfl, hk, hm, HM, HB⟩ := hrel
  by_cases hc : k < n ∧ m < most
  ·obtain ⟨hlt, hmm⟩ := hc
   obtain ⟨g, o, S, pt, px, pb, pe, ts, xs, nb, ne, ct, cx, cb, ce, zb, ze, rfl, a2, a3, a4, a5, a6, ⟨l1, l2, l3⟩, hT, hX, hBo, hEl, hzs⟩ := za0 HP k hlt
   have hlt' : (k : Int) < (n : Int) := by omega
   have hmm' : (m : Int) < (most : Int) := by omega
   have HC : Hid (∀ W, Below w.heap.size w W → W.cell? ⟨g, o + k * 7 + 2, none⟩ = some (.string ⟨S.toArray⟩) ∧ W.cell? ⟨g, o + k * 7 + 3, none⟩ = some (.slice pt ts.length ct) ∧ W.cell? ⟨g, o + k * 7 + 4, none⟩ = some (.slice px xs.length cx) ∧ W.cell? ⟨g, o + k * 7 + 5, none⟩ = some (.slice pb nb cb) ∧ W.cell? ⟨g, o + k * 7 + 6, none⟩ = some (.slice pe ne ce)) := fun W h => ⟨(h.cell (p := ⟨g, _, none⟩) (za2 a2)).trans a2, (h.cell (p := ⟨g, _, none⟩) (za2 a3)).trans a3, (h.cell (p := ⟨g, _, none⟩) (za2 a4)).trans a4, (h.cell (p := ⟨g, _, none⟩) (za2 a5)).trans a5, (h.cell (p := ⟨g, _, none⟩) (za2 a6)).trans a6⟩
   have HT := za3 hT
   have HX := za3 hX
   have HBo := za3 hBo
   have HEl := za3 hEl
   have hz : ByteArray.size ⟨S.toArray⟩ = S.length := by show S.toArray.size = _; simp
   have hm0 := za0 HM hmm
   have HZ : Hid (sumR zs (k + 1) = m + 1 + S.length + szL D ts + ze9 D d xs + zb + ze) := by show _ = _; rw [sumR_succ, hzs, ← hm0]; omega
   obtain ⟨f2, f3, f4, f5, f6⟩ := za0 HC _ (za0 HB)
   clear a2 a3 a4 a5 a6 hT hX hBo hEl HM hm0 hzs HP
   go_upto_block 2 with fail
   go_cut [5] (fun nn wx => ∃ (m1 : Nat) (Wy : World), nn = .int .i64 m1 ∧ Wy = wx ∧ m1 ≤ most + 422212465053696 ∧ Hid (m1 < most → m1 = m + 1 + S.length + szL D ts) ∧ Hid (Below w.heap.size w Wy))
   case first =>
    go_wp2_with fail
    go_loopg [5, 7] ts.length (fun gk nn i wr2 => ∃ j m2 : Nat, i = .int .i64 j ∧ nn = .int .i64 m2 ∧ j + gk = ts.length ∧ m2 ≤ most + 422212465053696 ∧ Hid (m2 < most → m2 = m + 1 + S.length + szL D (ts.take j)) ∧ Hid (Below w.heap.size w wr2))
    case atStart => exact ⟨0, m + 1 + S.length, rfl, by go_num, by omega, by omega, (by show _ → _; intro _; simp [szL]), za0 HB⟩
    case round =>
     obtain ⟨j, m2, rfl, rfl, hj, hm2, HM2, HB2⟩ := hrel
     clear f2 f3 f4 f5 f6
     obtain ⟨f2, f3, f4, f5, f6⟩ := za0 HC _ (za0 HB2)
     by_cases hc : j < ts.length ∧ m2 < most
     ·obtain ⟨hlt2, hnn⟩ := hc
      obtain ⟨u, ⟨gt, ot, K', S', qn, qe, q3, nn1, c1, ne1, c2, n3, c3, rfl, rfl, b0, b1, b2, b3, b4⟩, HI⟩ := za0 HT j hlt2
      have hb := za0 HB2
      have e0 := (hb.cell (p := ⟨gt, _, none⟩) (za2 b0)).trans b0
      have e1 := (hb.cell (p := ⟨gt, _, none⟩) (za2 b1)).trans b1
      have e2 := (hb.cell (p := ⟨gt, _, none⟩) (za2 b2)).trans b2
      have e3 := (hb.cell (p := ⟨gt, _, none⟩) (za2 b3)).trans b3
      have e4 := (hb.cell (p := ⟨gt, _, none⟩) (za2 b4)).trans b4
      have hlt2' : (j : Int) < (ts.length : Int) := by omega
      have hnn' : (m2 : Int) < (most : Int) := by omega
      have CL := za3 (HI ((most : Int) - m2) (most - m2) _ (by omega) hb (by omega) (by omega))
      clear HI b0 b1 b2 b3 b4 hb
      go_wp2_with (go_at_call 29; refine (za0 CL).mono ?_; clear CL; rintro e w1 ⟨⟨z, rfl, hz1, hz2⟩, hb1⟩)
      go_roundg (ts.length - (j + 1))
      case measure => omega
      case rel => exact ⟨j + 1, m2 + z, by go_num, by go_num, by omega, by omega, (by have := za0 HM2 hnn; show _ → _; intro h; have := hz2 (by omega); rw [zgi hlt2]; omega), (za0 HB2).trans (hb1.mono (za0 HB2).size)⟩
     ·have HM3 : Hid (m2 < most → m2 = m + 1 + S.length + szL D ts) := fun h => by
       have hjl : j = ts.length := by omega
       have := za0 HM2 h
       rw [hjl, List.take_length] at this
       exact this
      have hx : ((j : Int) < (ts.length : Int) ∧ (most : Int) ≤ (m2 : Int)) ∨ ¬ (j : Int) < (ts.length : Int) := by omega
      clear hc HM2
      rcases hx with ⟨hlt2, hmm2⟩ | hlt2
      all_goals
       go_wp2
       go_meet
       case rel => exact ⟨m2, _, rfl, rfl, hm2, za0 HM3, za0 HB2⟩
   case rest =>
    obtain ⟨m1, W1, rfl, rfl, hm1, HM1, HB1⟩ := hcut
    clear f2 f3 f4 f5 f6 HT HB
    obtain ⟨f2, f3, f4, f5, f6⟩ := za0 HC _ (za0 HB1)
    go_upto_block 4 with fail
    go_cut [5] (fun nn wx => ∃ (m1 : Nat) (Wy : World), nn = .int .i64 m1 ∧ Wy = wx ∧ m1 ≤ most + 422212465053696 ∧ Hid (m1 < most → m1 = m + 1 + S.length + szL D ts + ze9 D d xs) ∧ Hid (Below w.heap.size w Wy))
    case first =>
     go_wp2_with fail
     go_loopg [5, 8] xs.length (fun gk nn i wr2 => ∃ j m2 : Nat, i = .int .i64 j ∧ nn = .int .i64 m2 ∧ j + gk = xs.length ∧ m2 ≤ most + 422212465053696 ∧ Hid (m2 < most → m2 = m + 1 + S.length + szL D ts + ze9 D d (xs.take j)) ∧ Hid (Below w.heap.size w wr2))
     case atStart => exact ⟨0, m1, rfl, rfl, by omega, hm1, (by show _ → _; intro h; have := za0 HM1 h; simp [ze9]; omega), za0 HB1⟩
     case round =>
      obtain ⟨j, m2, rfl, rfl, hj, hm2, HM2, HB2⟩ := hrel
      clear f2 f3 f4 f5 f6
      obtain ⟨f2, f3, f4, f5, f6⟩ := za0 HC _ (za0 HB2)
      by_cases hc : j < xs.length ∧ m2 < most
      ·obtain ⟨hlt2, hnn⟩ := hc
       obtain ⟨u, ⟨gt, ot, A', K', N', S', qt, qn, q3, nt1, c1, nn1, c2, n3, c3, rfl, rfl, b0, b1, b2, b3, b4, b5, b6⟩, HI⟩ := za0 HX j hlt2
       have hb := za0 HB2
       have e0 := (hb.cell (p := ⟨gt, _, none⟩) (za2 b0)).trans b0
       have e1 := (hb.cell (p := ⟨gt, _, none⟩) (za2 b1)).trans b1
       have e2 := (hb.cell (p := ⟨gt, _, none⟩) (za2 b2)).trans b2
       have e3 := (hb.cell (p := ⟨gt, _, none⟩) (za2 b3)).trans b3
       have e4 := (hb.cell (p := ⟨gt, _, none⟩) (za2 b4)).trans b4
       have e5 := (hb.cell (p := ⟨gt, _, none⟩) (za2 b5)).trans b5
       have e6 := (hb.cell (p := ⟨gt, _, none⟩) (za2 b6)).trans b6
       have hlt2' : (j : Int) < (xs.length : Int) := by omega
       have hnn' : (m2 : Int) < (most : Int) := by omega
       have CL := za3 (HI ((most : Int) - m2) (most - m2) _ (by omega) hb (by omega) (by omega))
       clear HI b0 b1 b2 b3 b4 b5 b6 hb
       go_wp2_with (go_at_call 6; refine (za0 CL).mono ?_; clear CL; rintro e w1 ⟨⟨z, rfl, hz1, hz2⟩, hb1⟩)
       go_roundg (xs.length - (j + 1))
       case measure => omega
       case rel => exact ⟨j + 1, m2 + z, by go_num, by go_num, by omega, by omega, (by have := za0 HM2 hnn; show _ → _; intro h; have := hz2 (by omega); rw [szXL_take hlt2]; omega), (za0 HB2).trans (hb1.mono (za0 HB2).size)⟩
      ·have HM3 : Hid (m2 < most → m2 = m + 1 + S.length + szL D ts + ze9 D d xs) := fun h => by
        have hjl : j = xs.length := by omega
        have := za0 HM2 h
        rw [hjl, List.take_length] at this
        exact this
       have hx : ((j : Int) < (xs.length : Int) ∧ (most : Int) ≤ (m2 : Int)) ∨ ¬ (j : Int) < (xs.length : Int) := by omega
       clear hc HM2
       rcases hx with ⟨hlt2, hmm2⟩ | hlt2
       all_goals
        go_wp2
        go_meet
        case rel => exact ⟨m2, _, rfl, rfl, hm2, za0 HM3, za0 HB2⟩
    case rest =>
     clear HM1 HB1 hm1 HX f2 f3 f4 f5 f6
     obtain ⟨m1, W1, rfl, rfl, hm1, HM1, HB1⟩ := hcut
     obtain ⟨f2, f3, f4, f5, f6⟩ := za0 HC _ (za0 HB1)
     go_upto_if 89 with fail
     go_cut [5] (fun nn wx => ∃ (m1 : Nat) (Wy : World), nn = .int .i64 m1 ∧ Wy = wx ∧ m1 ≤ most + 422212465053696 ∧ Hid (m1 < most → m1 = m + 1 + S.length + szL D ts + ze9 D d xs + zb) ∧ Hid (Below w.heap.size w Wy))
     case first =>
      by_cases c1 : m1 < most
      ·have c1' : (m1 : Int) < (most : Int) := by omega
       have CB := za3 (za0 HBo ((most : Int) - m1) (most - m1) _ (by omega) (za0 HB1) (by omega) (by omega))
       go_wp2_with (go_at_call 14; refine (za0 CB).mono ?_; clear CB; rintro e w2 ⟨⟨z, rfl, hz1, hz2⟩, hb2⟩)
       go_meet
       case rel => exact ⟨m1 + z, _, by go_num, rfl, by omega, (by have := za0 HM1 c1; show _ → _; intro h; have := hz2 (by omega); omega), (za0 HB1).trans (hb2.mono (za0 HB1).size)⟩
      ·have c1' : ¬ (m1 : Int) < (most : Int) := by omega
       go_wp2
       go_meet
       case rel => exact ⟨m1, _, rfl, rfl, hm1, (by show _ → _; intro h; omega), za0 HB1⟩
     case rest =>
      clear HM1 HB1 hm1 HBo f2 f3 f4 f5 f6
      obtain ⟨m1, W1, rfl, rfl, hm1, HM1, HB1⟩ := hcut
      obtain ⟨f2, f3, f4, f5, f6⟩ := za0 HC _ (za0 HB1)
      by_cases c1 : m1 < most
      ·have c1' : (m1 : Int) < (most : Int) := by omega
       have CB := za3 (za0 HEl ((most : Int) - m1) (most - m1) _ (by omega) (za0 HB1) (by omega) (by omega))
       go_wp2_with (go_at_call 14; refine (za0 CB).mono ?_; clear CB; rintro e w2 ⟨⟨z, rfl, hz1, hz2⟩, hb2⟩)
       go_roundw
       case rel => exact ⟨k + 1, m1 + z, by go_num, by go_num, by omega, by omega, (by have := za0 HM1 c1; have := za0 HZ; show _ → _; intro h; have := hz2 (by omega); omega), (za0 HB1).trans (hb2.mono (za0 HB1).size)⟩
       case measure => simp [intOf]; omega
      ·have c1' : ¬ (m1 : Int) < (most : Int) := by omega
       go_wp2
       go_roundw
       case rel => exact ⟨k + 1, m1, by go_num, rfl, by omega, hm1, (by show _ → _; intro h; omega), za0 HB1⟩
       case measure => simp [intOf]; omega
  ·have HE : Hid (m < most → m = sumR zs n) := fun h => by
    have hkl : k = n := by omega
    have := za0 HM h
    rw [hkl] at this
    exact this
   have hx : ((k : Int) < (n : Int) ∧ (most : Int) ≤ (m : Int)) ∨ ¬ (k : Int) < (n : Int) := by omega
   clear hc HM HP
   rcases hx with ⟨hlt, hmm⟩ | hlt
   all_goals
    go_wp2
    go_ret
    exact ⟨⟨m, rfl, hm, za0 HE⟩, za0 HB⟩
def SizeSsAt (D d m : Nat) : Prop := ∀ (ss : List (St D d m)) (p : Option Addr) (c : Nat) (w : World), StRow w D d m (.slice p ss.length c) ss → StWf D d m ss → SizeTo 14 (.slice p ss.length c) (zey D d m ss) w
theorem zki (D d : Nat) : ∀ m, SizeSsAt D d m
 | 0 => fun ss p c w _ _ q most W hq hW h1 h2 => by
  subst hq
  match ss with
  | [] => exact sizeS_run D d p 0 c most W (fun _ => 0) (by omega) h1 h2 fun k hk => absurd hk (by omega)
  | x :: _ => exact nomatch x
 | m + 1 => fun ss p c w hr hwf q most W hq hW h1 h2 => by
  subst hq
  have hs : zey D d (m + 1) ss = sumR (fun k => (ss[k]?.map fun s => 1 + (zc7 s).length + szL D (sT s) + ze9 D d (sX s) + zey D d m (sB s) + zey D d m (sE s)).getD 0) ss.length := by
   rw [zey, sumR, ziu, List.take_length]
  rw [hs]
  obtain ⟨p', c', e, hp⟩ := hr
  injection e with e1 e2 e3
  subst e1
  refine sizeS_run D d p ss.length c most W _ hwf.1 h1 h2 fun k hk => ?_
  have hk' : ss[k]? = some ss[k] := by simp
  obtain ⟨g, o, vt, vx, vb, ve, rfl, a0, a1, a2, a3, a4, a5, a6, r1, r2, r3, r4⟩ := hp k _ hk'
  obtain ⟨f1, f2, f3, f4, f5⟩ := hwf.2 _ (List.mem_of_getElem? hk')
  obtain ⟨pt, ct, rfl⟩ := r1.slice
  obtain ⟨px, cx, rfl⟩ := r2.1.slice
  obtain ⟨pb, cb, rfl⟩ := r3.slice
  obtain ⟨pe, ce, rfl⟩ := r4.slice
  obtain ⟨t1, t2⟩ := TyWf.each f2
  obtain ⟨x1, x2⟩ := ExWf.each f3
  have up : ∀ {i : Nat} {v : Value}, w.cell? ⟨g, i, none⟩ = some v → W.cell? ⟨g, i, none⟩ = some v := fun h => (hW.cell (p := ⟨g, _, none⟩) (za2 h)).trans h
  refine ⟨g, o, zc7 ss[k], pt, px, pb, pe, sT ss[k], sX ss[k], (sB ss[k]).length, (sE ss[k]).length, ct, cx, cb, ce, zey D d m (sB ss[k]), zey D d m (sE ss[k]), rfl, up a2, up a3, up a4, up a5, up a6, ⟨f1, t1, x1⟩, fun j hj => ?_, fun j hj => ?_, ?_, ?_, by rw [hk']; rfl⟩
  ·obtain ⟨u, hu, hv⟩ := (TyRow.below hW D r1).at j hj
   exact ⟨u, hu, fun q most W2 hq hW2 h1 h2 => size_any D _ u q most W2 hq (TyValD.below hW2 hv) (t2 _ (List.getElem_mem hj)) h1 h2⟩
  ·obtain ⟨u, hu, hv⟩ := (ExRow.below hW d r2.1).at j hj
   exact ⟨u, hu, fun q most W2 hq hW2 h1 h2 => sizeX_any D d _ u q most W2 hq (ExValD.below hW2 hv) (x2 _ (List.getElem_mem hj)) h1 h2⟩
  ·exact zki D d m _ pb cb W (StRow.below hW m r3) f4
  ·exact zki D d m _ pe ce W (StRow.below hW m r4) f5
end Go.Proofs.YtmpbbmfbgcpplaaGreatDoor
