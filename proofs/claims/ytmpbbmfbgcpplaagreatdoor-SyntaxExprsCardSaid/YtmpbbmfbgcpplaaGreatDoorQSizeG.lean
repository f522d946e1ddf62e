/-
  Arguments that are expressions or statements, opened as trees.
-/
import Derived.Test.YtmpbbmfbgcpplaaGreatDoorQKeepG
import Derived.Test.YtmpbbmfbgcpplaaGreatDoorQStG
import Derived.Deep.DeepCutAuto
import Derived.Deep.CutBlock
import Derived.Deep.LoopGhost
import Derived.Test.YtmpbbmfbgcpplaaGreatDoorQPartsG
namespace Go.Proofs.YtmpbbmfbgcpplaaGreatDoor
open Go Go.ChangeShapes Go.WideShapes Go.ChangeAt Go.RowKit Go.Deep Lx

theorem bytes_ex : Tryz.prog.bytesOf 28 = 112 := by kernel_rfl
theorem cells_ex : Tryz.prog.cellsOf 28 = 7 := by kernel_rfl
/-- what the reach of a row gives of expressions. -/
def ExWf (D : Nat) : (d : Nat) → List (Ex D d) → Prop
  | 0, _ => True
  | d + 1, xs => xs.length ≤ 140737488351232 ∧ ∀ x ∈ xs, ((xS x).length ≤ 140737488351232 ∧ -9223372036854775808 ≤ xN x ∧ xN x ≤ 9223372036854775807) ∧ (xNs x).length ≤ 140737488351232 ∧ (∀ s ∈ xNs x, s.length ≤ 140737488351232) ∧ TyWf D (xT x) ∧ ExWf D d (xPs x)
section
variable {H : Type} {enc : TypeId × Value → H} {W : World}
def OpensEx (enc : TypeId × Value → H) (W : World) (D k : Nat) : Prop := ∀ (v : Value) (x : DataW H × List MemPlace), DataW.trod enc Tryz.prog W 0 (fun _ => true) true (2 * k + 2) 26 [v] = some x → Reached 26 x.1 → ∃ xs : List (Ex D k), ExRow W D k v xs ∧ ExCap W D k v xs ∧ ExWf D k xs
theorem int_wf {z : Int} (h : (Lit.int .i64 z).wf = true) : -9223372036854775808 ≤ z ∧ z ≤ 9223372036854775807 := by
  simp [Lit.wf, show IntKind.i64.min = -9223372036854775808 by decide, show IntKind.i64.max = 9223372036854775807 by decide] at h
  omega
set_option maxRecDepth 100000 in
theorem open_place {n : Nat} {cs : List Value} {y : DataW H × List MemPlace} (h : DataW.trod enc Tryz.prog W 0 (fun _ => true) true n 23 cs = some y) : ∃ z, cs = [.int .i64 z] := by
  obtain ⟨xs, m, _, rfl, hl, hxl, hf⟩ := DataW.trod_struct Tryz.underlying23 h
  have g0 := hf 0 _ rfl
  have hc : Tryz.prog.cellsOf 23 = 1 := by kernel_rfl
  rw [hc] at hl
  have hx1 : xs.length = 1 := hxl
  rw [List.getElem?_eq_getElem (by omega)] at g0
  obtain ⟨z, e, _, _⟩ := DataW.trod_int Tryz.underlying3 g0
  match cs, hl with
  | [c], _ => exact ⟨z, e⟩
set_option maxRecDepth 100000 in
theorem open_ex_cells {D k : Nat} (hk : k ≤ D) (IH : OpensEx enc W D k) {cs : List Value} {x : DataW H × List MemPlace} (h : DataW.trod enc Tryz.prog W 0 (fun _ => true) true (2 * k + 3) 28 cs = some x) (hr : Reached 28 x.1) :
    ∃ (t : Ex D (k + 1)) (vt vn vp : Value), cs = [.int .i64 (xAt t), .int .i64 (xKind t), .int .i64 (xN t), .string ⟨(xS t).toArray⟩, vt, vn, vp] ∧ TyRow W D vt (xT t) ∧ SRow W vn (xNs t) ∧ ExRow W D k vp (xPs t) ∧ ExCap W D k vp (xPs t) ∧
      ((xS t).length ≤ 140737488351232 ∧ -9223372036854775808 ≤ xN t ∧ xN t ≤ 9223372036854775807) ∧ (xNs t).length ≤ 140737488351232 ∧ (∀ s ∈ xNs t, s.length ≤ 140737488351232) ∧ TyWf D (xT t) ∧ ExWf D k (xPs t) := by
  obtain ⟨xs, m, hm, rfl, hl, hxl, hf⟩ := DataW.trod_struct Tryz.underlying28 h
  obtain rfl : m = 2 * k + 2 := by omega
  rw [cells_ex] at hl
  match cs, hl with
  | [c0, c1, c2, c3, c4, c5, c6], _ =>
    have hx : xs.length = 7 := hxl
    match xs, hx with
    | [y0, y1, y2, y3, y4, y5, y6], _ =>
      have g0 := hf 0 _ rfl
      have g1 := hf 1 _ rfl
      have g2 := hf 2 _ rfl
      have g3 := hf 3 _ rfl
      have g4 := hf 4 _ rfl
      have g5 := hf 5 _ rfl
      have g6 := hf 6 _ rfl
      simp only [List.getElem?_cons_zero, List.getElem?_cons_succ] at g0 g1 g2 g3 g4 g5 g6
      have hw : ∀ n, (n ∈ y3.1.weights Tryz.prog 9 ∨ n ∈ y4.1.weights Tryz.prog 24 ∨ n ∈ y5.1.weights Tryz.prog 25 ∨ n ∈ y6.1.weights Tryz.prog 26) → n ≤ reachBytes := fun n hn => hr n (by
        show n ∈ DataW.weights Tryz.prog 28 (.agg [y0.1, y1.1, y2.1, y3.1, y4.1, y5.1, y6.1])
        rw [DataW.weights, Tryz.underlying28]
        show n ∈ DataW.weightsEach Tryz.prog [23, 3, 3, 9, 24, 25, 26] [y0.1, y1.1, y2.1, y3.1, y4.1, y5.1, y6.1]
        simp only [DataW.weightsEach, List.mem_append]
        rcases hn with h | h | h | h <;> simp [h])
      obtain ⟨z0, e0⟩ := open_place (cs := [c0]) g0
      obtain ⟨z1, e1, _, _⟩ := DataW.trod_int Tryz.underlying3 g1
      obtain ⟨z2, e2, _, wf2⟩ := DataW.trod_int Tryz.underlying3 g2
      obtain ⟨s, e3, e3', _⟩ := DataW.trod_string Tryz.underlying9 g3
      obtain ⟨ts, r4, r4'⟩ := opens_any D c4 _ (DataW.trod_le (show 2 * k + 2 ≤ 2 * D + 2 by omega) g4) (fun n hn => hw n (Or.inr (Or.inl hn)))
      obtain ⟨ns, r5, r5a, r5b⟩ := open_strs (v := c5) g5 (fun n hn => hw n (Or.inr (Or.inr (Or.inl hn))))
      obtain ⟨ps, r6, r6a, r6b⟩ := IH c6 _ g6 (fun n hn => hw n (Or.inr (Or.inr (Or.inr hn))))
      have hs := hw s.data.toList.length (Or.inl (by rw [e3', DataW.weights]; simp))
      unfold reachBytes at hs
      obtain ⟨b1, b2⟩ := int_wf wf2
      obtain rfl : c0 = .int .i64 z0 := (List.cons.inj (show [c0] = [Value.int .i64 z0] from e0)).1
      obtain rfl : c1 = .int .i64 z1 := (List.cons.inj (show [c1] = [Value.int .i64 z1] from e1)).1
      obtain rfl : c2 = .int .i64 z2 := (List.cons.inj (show [c2] = [Value.int .i64 z2] from e2)).1
      obtain rfl : c3 = .string s := (List.cons.inj (show [c3] = [Value.string s] from e3)).1
      exact ⟨(z0, z1, z2, s.data.toList, ts, ns, ps), c4, c5, c6, rfl, r4, r5, r6, r6a, ⟨hs, b1, b2⟩, r5a, r5b, r4', r6b⟩
set_option maxRecDepth 100000 in
theorem opens_ex_zero {D : Nat} : OpensEx enc W D 0 := fun v x h hr => by
  rcases open_each Tryz.underlying26 cells_ex h hr with rfl | ⟨a, len, cap, m, hm, rfl, hl, hcap, hx⟩
  · exact ⟨[], ⟨none, 0, rfl⟩, trivial, trivial⟩
  · obtain rfl : m = 1 := by omega
    rcases Nat.eq_zero_or_pos len with rfl | hpos
    · exact ⟨[], ⟨some a, cap, rfl⟩, trivial, trivial⟩
    · obtain ⟨cs, y, hlen, hcell, ht, hry⟩ := hx 0 hpos
      obtain ⟨xs, n, hn, rfl, hl', hxl, hf⟩ := DataW.trod_struct Tryz.underlying28 ht
      obtain rfl : n = 0 := by omega
      have g0 := hf 0 _ rfl
      have hx7 : xs.length = 7 := hxl
      rw [List.getElem?_eq_getElem (by omega)] at g0
      simp [DataW.trod] at g0
set_option maxRecDepth 100000 in
theorem opens_ex_succ {D k : Nat} (hk : k ≤ D) (IH : OpensEx enc W D k) : OpensEx enc W D (k + 1) := fun v x h hr => by
  rcases open_each Tryz.underlying26 cells_ex h hr with rfl | ⟨a, len, cap, m, hm, rfl, hl, hcap, hx⟩
  · exact ⟨[], ⟨none, 0, rfl, fun j t ht => by simp at ht⟩, ⟨none, 0, rfl, by simp, fun j t ht => by simp at ht⟩, by simp, by simp⟩
  · obtain rfl : m = 2 * k + 3 := by omega
    rw [bytes_ex] at hcap
    unfold reachBytes at hcap
    have each : ∀ i, i < len → ∃ q : Ex D (k + 1) × Value × Value × Value, (W.cell? (a.add (i * 7)) = some (.int .i64 (xAt q.1)) ∧ W.cell? (a.add (i * 7 + 1)) = some (.int .i64 (xKind q.1)) ∧ W.cell? (a.add (i * 7 + 2)) = some (.int .i64 (xN q.1)) ∧ W.cell? (a.add (i * 7 + 3)) = some (.string ⟨(xS q.1).toArray⟩) ∧ W.cell? (a.add (i * 7 + 4)) = some q.2.1 ∧ W.cell? (a.add (i * 7 + 5)) = some q.2.2.1 ∧ W.cell? (a.add (i * 7 + 6)) = some q.2.2.2) ∧
        (TyRow W D q.2.1 (xT q.1) ∧ SRow W q.2.2.1 (xNs q.1) ∧ ExRow W D k q.2.2.2 (xPs q.1) ∧ ExCap W D k q.2.2.2 (xPs q.1)) ∧ ((xS q.1).length ≤ 140737488351232 ∧ -9223372036854775808 ≤ xN q.1 ∧ xN q.1 ≤ 9223372036854775807) ∧ (xNs q.1).length ≤ 140737488351232 ∧ (∀ s ∈ xNs q.1, s.length ≤ 140737488351232) ∧ TyWf D (xT q.1) ∧ ExWf D k (xPs q.1) := by
      intro i hi
      obtain ⟨cs, y, hlen, hcell, ht, hry⟩ := hx i hi
      obtain ⟨t, vt, vn, vp, rfl, r1, r2, r3, r4, r5⟩ := open_ex_cells hk IH ht hry
      exact ⟨(t, vt, vn, vp), ⟨by simpa using hcell 0 (by omega), by simpa using hcell 1 (by omega), by simpa using hcell 2 (by omega), by simpa using hcell 3 (by omega), by simpa using hcell 4 (by omega), by simpa using hcell 5 (by omega), by simpa using hcell 6 (by omega)⟩, ⟨r1, r2, r3, r4⟩, r5⟩
    have hin : Inhabited (Ex D (k + 1) × Value × Value × Value) := ⟨((0, 0, 0, [], [], [], []), .bool true, .bool true, .bool true)⟩
    obtain ⟨q, hq⟩ := choose_lt each
    have hat : ∀ j t, ((List.range len).map fun i => (q i).1)[j]? = some t → ∃ hj : j < len, (q j).1 = t := fun j t ht => by
      rw [List.getElem?_map] at ht
      have hj : j < len := by
        rcases Nat.lt_or_ge j len with h | h
        · exact h
        · rw [List.getElem?_eq_none (by simpa using h)] at ht; cases ht
      rw [List.getElem?_range hj] at ht
      exact ⟨hj, by simpa using ht⟩
    have hspot : 0 < len → ∃ b o, a = ⟨b, o, none⟩ := fun h0 => by
      obtain ⟨⟨c00, _⟩, _⟩ := hq 0 h0
      obtain ⟨b, o, sp⟩ := a
      obtain rfl : sp = none := by simpa [Addr.add] using World.cell?_spot c00
      exact ⟨b, o, rfl⟩
    refine ⟨(List.range len).map fun i => (q i).1, ⟨some a, cap, by simp, fun j t ht => ?_⟩, ⟨some a, cap, by simp, by simpa using hl, fun j t ht => ?_⟩, by simp; omega, fun s hs => ?_⟩
    · obtain ⟨hj, rfl⟩ := hat j t ht
      obtain ⟨⟨c0, c1, c2, c3, c4, c5, c6⟩, ⟨r1, r2, r3, _⟩, _⟩ := hq j hj
      obtain ⟨b, o, rfl⟩ := hspot (by omega)
      rw [Go.WideShapes.add_plain] at c0 c1 c2 c3 c4 c5 c6
      exact ⟨b, o, _, _, _, rfl, c0, by simpa [Nat.add_assoc] using c1, by simpa [Nat.add_assoc] using c2, by simpa [Nat.add_assoc] using c3, by simpa [Nat.add_assoc] using c4, by simpa [Nat.add_assoc] using c5, by simpa [Nat.add_assoc] using c6, r1, r2, r3⟩
    · obtain ⟨hj, rfl⟩ := hat j t ht
      obtain ⟨⟨c0, c1, c2, c3, c4, c5, c6⟩, ⟨_, _, _, r4⟩, _⟩ := hq j hj
      obtain ⟨b, o, rfl⟩ := hspot (by omega)
      rw [Go.WideShapes.add_plain] at c6
      exact ⟨b, o, _, rfl, by simpa [Nat.add_assoc] using c6, r4⟩
    · obtain ⟨i, hi, rfl⟩ := List.mem_map.1 hs
      exact (hq i (List.mem_range.1 hi)).2.2
theorem opens_ex {D : Nat} : ∀ k, k ≤ D → OpensEx enc W D k
  | 0, _ => opens_ex_zero
  | k + 1, h => opens_ex_succ (by omega) (opens_ex k (by omega))
end
end Go.Proofs.YtmpbbmfbgcpplaaGreatDoor
/-
  SizeExpr of package coilkeep, walked: how many parts and bytes an expression has, up to a limit.
-/
namespace Go.Proofs.YtmpbbmfbgcpplaaGreatDoor
open Go Go.RowKit Lx

/-- how many parts and bytes an expression has. -/
def szX (D : Nat) : (d : Nat) → Ex D d → Nat
  | 0, _ => 0
  | d + 1, x => 1 + (xS x).length + (xNs x).length + sumL (xNs x) + szL D (xT x) + ((xPs x).map (szX D d)).sum
def szXL (D d : Nat) (xs : List (Ex D d)) : Nat := (xs.map (szX D d)).sum
theorem szXL_take {D d : Nat} {xs : List (Ex D d)} {k : Nat} (h : k < xs.length) : szXL D d (xs.take (k + 1)) = szXL D d (xs.take k) + szX D d xs[k] := by
  rw [List.take_succ_eq_append_getElem h]; unfold szXL; rw [List.map_append, List.sum_append]; simp
/-- an expression's value as it lies, at any depth. -/
def ExValD (W : World) (D : Nat) : (d : Nat) → Value → Ex D d → Prop
  | 0, _, _ => False
  | d + 1, v, x => ExVal W D d v x
theorem ExValD.below {w w' : World} {D : Nat} (hb : Below w.heap.size w w') : ∀ {d : Nat} {v : Value} {x : Ex D d}, ExValD w D d v x → ExValD w' D d v x
  | 0, _, _, h => h
  | _ + 1, _, _, h => ExVal.below h hb
/-- the seven cells of a slice's k-th expression. -/
def ExCell (W : World) (pp : Option Addr) (k : Nat) (v : Value) : Prop :=
  ∃ (g o : Nat) (A K N : Int) (S : ByteArray) (pt pn p3 : Option Addr) (nt ct nn cn n3 c3 : Nat), pp = some ⟨g, o, none⟩ ∧ v = .agg #[.int .i64 A, .int .i64 K, .int .i64 N, .string S, .slice pt nt ct, .slice pn nn cn, .slice p3 n3 c3] ∧
    W.cell? ⟨g, o + k * 7, none⟩ = some (.int .i64 A) ∧ W.cell? ⟨g, o + k * 7 + 1, none⟩ = some (.int .i64 K) ∧ W.cell? ⟨g, o + k * 7 + 2, none⟩ = some (.int .i64 N) ∧ W.cell? ⟨g, o + k * 7 + 3, none⟩ = some (.string S) ∧ W.cell? ⟨g, o + k * 7 + 4, none⟩ = some (.slice pt nt ct) ∧ W.cell? ⟨g, o + k * 7 + 5, none⟩ = some (.slice pn nn cn) ∧ W.cell? ⟨g, o + k * 7 + 6, none⟩ = some (.slice p3 n3 c3)
theorem ExRow.at {w : World} {D : Nat} : ∀ {d : Nat} {pp : Option Addr} {cp : Nat} {xs : List (Ex D d)}, ExRow w D d (.slice pp xs.length cp) xs → ∀ (k : Nat) (hk : k < xs.length), ∃ v, ExCell w pp k v ∧ ExValD w D d v xs[k]
  | 0, _, _, xs, _, k, hk => by
    match xs, hk with
    | t :: _, _ => exact nomatch t
  | d + 1, pp, cp, xs, h, k, hk => by
    obtain ⟨p, c, e, hp⟩ := h
    injection e with e1 e2 e3
    subst e1
    obtain ⟨g, o, vt, vn, vp, rfl, a0, a1, a2, a3, a4, a5, a6, r1, r2, r3⟩ := hp k xs[k] (by simp)
    obtain ⟨pt, ct, rfl⟩ := r1.slice
    obtain ⟨pn, cn, rfl, h2⟩ := r2
    obtain ⟨p3, c3, rfl⟩ := r3.slice
    exact ⟨_, ⟨g, o, _, _, _, _, pt, pn, p3, _, ct, _, cn, _, c3, rfl, rfl, a0, a1, a2, a3, a4, a5, a6⟩, pt, pn, p3, ct, cn, c3, rfl, r1, ⟨pn, cn, rfl, h2⟩, r3⟩
/-- an expression fits, at any depth. -/
def WfX (D : Nat) : (d : Nat) → Ex D d → Prop
  | 0, _ => False
  | d + 1, x => (xS x).length ≤ 140737488351232 ∧ (xNs x).length ≤ 140737488351232 ∧ (∀ s ∈ xNs x, s.length ≤ 140737488351232) ∧ ((xT x).length ≤ 140737488351232 ∧ ∀ t ∈ xT x, WfD D t) ∧ (xPs x).length ≤ 140737488351232 ∧ ∀ u ∈ xPs x, WfX D d u
theorem ExWf.each {D : Nat} : ∀ {d : Nat} {xs : List (Ex D d)}, ExWf D d xs → xs.length ≤ 140737488351232 ∧ ∀ u ∈ xs, WfX D d u
  | 0, [], _ => ⟨by simp, by simp⟩
  | 0, t :: _, _ => nomatch t
  | d + 1, xs, h => ⟨h.1, fun u hu => by
    obtain ⟨h1, h2, h3, h4, h5⟩ := h.2 u hu
    obtain ⟨h6, h7⟩ := ExWf.each h5
    exact ⟨h1.1, h2, h3, TyWf.each h4, h6, h7⟩⟩
abbrev exBox (A K N : Int) (S : ByteArray) (pt pn pp : Option Addr) (nt nn np ct cn cp : Nat) : Obj := .cells #[.int .i64 A, .int .i64 K, .int .i64 N, .string S, .slice pt nt ct, .slice pn nn cn, .slice pp np cp] 28
theorem exbox_cells {A K N : Int} {S : ByteArray} {pt pn pp : Option Addr} {nt nn np ct cn cp : Nat} {w wr : World} (hb : Below (w.alloc (exBox A K N S pt pn pp nt nn np ct cn cp)).heap.size (w.alloc (exBox A K N S pt pn pp nt nn np ct cn cp)) wr) :
    wr.cell? ⟨w.heap.size, 0, none⟩ = some (.int .i64 A) ∧ wr.cell? ⟨w.heap.size, 1, none⟩ = some (.int .i64 K) ∧ wr.cell? ⟨w.heap.size, 2, none⟩ = some (.int .i64 N) ∧ wr.cell? ⟨w.heap.size, 3, none⟩ = some (.string S) ∧ wr.cell? ⟨w.heap.size, 4, none⟩ = some (.slice pt nt ct) ∧ wr.cell? ⟨w.heap.size, 5, none⟩ = some (.slice pn nn cn) ∧ wr.cell? ⟨w.heap.size, 6, none⟩ = some (.slice pp np cp) := by
  have h : ∀ j, wr.cell? ⟨w.heap.size, j, none⟩ = (#[Value.int .i64 A, .int .i64 K, .int .i64 N, .string S, .slice pt nt ct, .slice pn nn cn, .slice pp np cp])[j]? := fun j => by
    rw [hb.cell (p := ⟨w.heap.size, j, none⟩) (by simp), World.cell?_alloc_at _ _ _ _ rfl]
  exact ⟨h 0, h 1, h 2, h 3, h 4, h 5, h 6⟩
/-- SizeExpr at expressions of one depth. -/
def SizeXAt (D d : Nat) : Prop := ∀ (t : Ex D d) (v : Value) (q : Int) (most : Nat) (w : World), q = most → ExValD w D d v t → WfX D d t → 1 ≤ most → most ≤ 100000 →
  Calls Tryz.prog 6 #[v, .int .i64 q] w fun e w' => (∃ n : Nat, e = .returned (.int .i64 (n : Nat)) ∧ n ≤ most + 422212465053696 ∧ (n < most → n = szX D d t)) ∧ Below w.heap.size w w'
set_option maxHeartbeats 8000000 in
set_option maxRecDepth 100000 in
theorem sizeX_step (D d : Nat) (IH : SizeXAt D d) : SizeXAt D (d + 1) := fun t v q most w hq hv hw h1 hmx => by
  subst hq
  obtain ⟨pt, pn, pp, ct, cn, cp, rfl, r1, r2, r3⟩ := hv
  obtain ⟨w1, w2, w3, ⟨w4, w5⟩, w6, w7⟩ := hw
  obtain ⟨A, K, N, S, ts, ns, xs⟩ := t
  dsimp only [xAt, xKind, xN, xS, xT, xNs, xPs] at *
  have hbA : Below w.heap.size w (w.alloc (exBox A K N ⟨S.toArray⟩ pt pn pp ts.length ns.length xs.length ct cn cp)) := (Below.refl _ _).alloc (Nat.le_refl _) _
  obtain ⟨p, c, e, hp⟩ := r2
  injection e with e1 e2 e3
  subst e1 e3
  have HN : Hid (∀ k (hk : k < ns.length), ∃ g o, pn = some ⟨g, o, none⟩ ∧ w.cell? ⟨g, o + k, none⟩ = some (.string ⟨ns[k].toArray⟩) ∧ ns[k].length ≤ 140737488351232) := fun k hk => by
    obtain ⟨g, o, e, a⟩ := hp k ns[k] (by simp)
    exact ⟨g, o, e, a, w3 _ (by simp)⟩
  have HTy : Hid (∀ k (hk : k < ts.length), ∃ u, TyCell w pt k u ∧ ∀ (q : Int) (most : Nat) W, q = most → Below w.heap.size w W → 1 ≤ most → most ≤ 100000 → Calls Tryz.prog 29 #[u, .int .i64 q] W fun e w' => (∃ n : Nat, e = .returned (.int .i64 (n : Nat)) ∧ n ≤ most + 422212465053696 ∧ (n < most → n = szD D ts[k])) ∧ Below W.heap.size W w') := fun k hk => by
    obtain ⟨u, hu, hv⟩ := r1.at k hk
    exact ⟨u, hu, fun q most W hq hW h1 h2 => size_any D _ u q most W hq (TyValD.below hW hv) (w5 _ (by simp)) h1 h2⟩
  have HP : Hid (∀ k (hk : k < xs.length), ∃ u, ExCell w pp k u ∧ ∀ (q : Int) (most : Nat) W, q = most → Below w.heap.size w W → 1 ≤ most → most ≤ 100000 → Calls Tryz.prog 6 #[u, .int .i64 q] W fun e w' => (∃ n : Nat, e = .returned (.int .i64 (n : Nat)) ∧ n ≤ most + 422212465053696 ∧ (n < most → n = szX D d xs[k])) ∧ Below W.heap.size W w') := fun k hk => by
    obtain ⟨u, hu, hv⟩ := r3.at k hk
    exact ⟨u, hu, fun q most W hq hW h1 h2 => IH _ u q most W hq (ExValD.below hW hv) (w7 _ (by simp)) h1 h2⟩
  have HSZ : Hid (szX D (d + 1) (A, K, N, S, ts, ns, xs) = 1 + S.length + ns.length + sumL ns + szL D ts + szXL D d xs) := rfl
  have HA := hide hbA
  have hS : S.toArray.size = S.length := by simp
  have hS' : ByteArray.size ⟨S.toArray⟩ = S.length := hS
  clear hp r1 r3 IH hbA w3 w5 w7
  go_enter Tryz.func6, Tryz.ntmps6
  go_upto_block 0 with fail
  go_cut [5] (fun nn wx => ∃ (m1 : Nat) (Wy : World), nn = .int .i64 m1 ∧ Wy = wx ∧ m1 ≤ most + 422212465053696 ∧ Hid (m1 < most → m1 = 1 + S.length + ns.length + sumL ns) ∧ Hid (Below (w.alloc (exBox A K N ⟨S.toArray⟩ pt pn pp ts.length ns.length xs.length ct cn cp)).heap.size (w.alloc (exBox A K N ⟨S.toArray⟩ pt pn pp ts.length ns.length xs.length ct cn cp)) Wy))
  case first =>
    go_wp2_with fail
    go_loopg [5, 6] ns.length (fun gk nn i wr => ∃ k m : Nat, i = .int .i64 k ∧ nn = .int .i64 m ∧ k + gk = ns.length ∧ m ≤ most + 422212465053696 ∧ Hid (m < most → m = 1 + S.length + ns.length + sumL (ns.take k)) ∧ Hid (Below (w.alloc (exBox A K N ⟨S.toArray⟩ pt pn pp ts.length ns.length xs.length ct cn cp)).heap.size (w.alloc (exBox A K N ⟨S.toArray⟩ pt pn pp ts.length ns.length xs.length ct cn cp)) wr))
    case atStart => exact ⟨0, 1 + S.length + ns.length, rfl, by go_num, by omega, by omega, (by show _ → _; intro _; simp [sumL]), Below.refl _ _⟩
    case round =>
      obtain ⟨k, m, rfl, rfl, hk, hm, HM, HB⟩ := hrel
      obtain ⟨d0, d1, d2, d3, d4, d5, d6⟩ := exbox_cells (unhide HB)
      by_cases hc : k < ns.length ∧ m < most
      · obtain ⟨hlt, hmm⟩ := hc
        obtain ⟨g, o, rfl, a0, hl⟩ := unhide HN k hlt
        have b0 := (((unhide HA).trans ((unhide HB).mono (by simp))).cell (p := ⟨g, _, none⟩) (cell_at a0)).trans a0
        have hlt' : (k : Int) < (ns.length : Int) := by omega
        have hmm' : (m : Int) < (most : Int) := by omega
        have hz : ByteArray.size ⟨ns[k].toArray⟩ = ns[k].length := by show ns[k].toArray.size = _; simp
        clear a0
        go_wp2
        go_roundg (ns.length - (k + 1))
        case measure => omega
        case rel => exact ⟨k + 1, m + ns[k].length, by go_num, by go_num, by omega, by omega, (by have := unhide HM hmm; show _ → _; intro _; rw [sumL_take hlt]; omega), unhide HB⟩
      · have HM2 : Hid (m < most → m = 1 + S.length + ns.length + sumL ns) := fun h => by
          have hkl : k = ns.length := by omega
          have := unhide HM h
          rw [hkl, List.take_length] at this
          exact this
        have hx : ((k : Int) < (ns.length : Int) ∧ (most : Int) ≤ (m : Int)) ∨ ¬ (k : Int) < (ns.length : Int) := by omega
        clear hc HM
        rcases hx with ⟨hlt, hmm⟩ | hlt
        all_goals
          go_wp2
          go_meet
          case rel => exact ⟨m, _, rfl, rfl, hm, unhide HM2, unhide HB⟩
  case rest =>
    obtain ⟨m1, W1, rfl, rfl, hm1, HM1, HB1⟩ := hcut
    clear HN
    go_upto_block 2 with fail
    go_cut [5] (fun nn wx => ∃ (m1 : Nat) (Wy : World), nn = .int .i64 m1 ∧ Wy = wx ∧ m1 ≤ most + 422212465053696 ∧ Hid (m1 < most → m1 = 1 + S.length + ns.length + sumL ns + szL D ts) ∧ Hid (Below (w.alloc (exBox A K N ⟨S.toArray⟩ pt pn pp ts.length ns.length xs.length ct cn cp)).heap.size (w.alloc (exBox A K N ⟨S.toArray⟩ pt pn pp ts.length ns.length xs.length ct cn cp)) Wy))
    case first =>
      go_wp2_with fail
      go_loopg [5, 7] ts.length (fun gk nn i wr => ∃ k m : Nat, i = .int .i64 k ∧ nn = .int .i64 m ∧ k + gk = ts.length ∧ m ≤ most + 422212465053696 ∧ Hid (m < most → m = 1 + S.length + ns.length + sumL ns + szL D (ts.take k)) ∧ Hid (Below (w.alloc (exBox A K N ⟨S.toArray⟩ pt pn pp ts.length ns.length xs.length ct cn cp)).heap.size (w.alloc (exBox A K N ⟨S.toArray⟩ pt pn pp ts.length ns.length xs.length ct cn cp)) wr))
      case atStart => exact ⟨0, m1, rfl, rfl, by omega, hm1, (by show _ → _; intro h; have := unhide HM1 h; simp [szL]; omega), unhide HB1⟩
      case round =>
        obtain ⟨j, n, rfl, rfl, hj, hn, HN, HB⟩ := hrel
        obtain ⟨d0, d1, d2, d3, d4, d5, d6⟩ := exbox_cells (unhide HB)
        by_cases hc : j < ts.length ∧ n < most
        · obtain ⟨hlt, hnn⟩ := hc
          obtain ⟨u, ⟨g, o, K', S', qn, qe, q3, nn, c1, ne, c2, n3, c3, rfl, rfl, a0, a1, a2, a3, a4⟩, HI⟩ := unhide HTy j hlt
          have hb := (unhide HA).trans ((unhide HB).mono (by simp))
          have b0 := (hb.cell (p := ⟨g, _, none⟩) (cell_at a0)).trans a0
          have b1 := (hb.cell (p := ⟨g, _, none⟩) (cell_at a1)).trans a1
          have b2 := (hb.cell (p := ⟨g, _, none⟩) (cell_at a2)).trans a2
          have b3 := (hb.cell (p := ⟨g, _, none⟩) (cell_at a3)).trans a3
          have b4 := (hb.cell (p := ⟨g, _, none⟩) (cell_at a4)).trans a4
          have hlt' : (j : Int) < (ts.length : Int) := by omega
          have hnn' : (n : Int) < (most : Int) := by omega
          have CL := hide (HI ((most : Int) - n) (most - n) wr (by omega) hb (by omega) (by omega))
          clear HI a0 a1 a2 a3 a4 hb
          go_wp2_with (go_at_call 29; refine (unhide CL).mono ?_; clear CL; rintro e w1 ⟨⟨z, rfl, hz1, hz2⟩, hb1⟩)
          go_roundg (ts.length - (j + 1))
          case measure => omega
          case rel => exact ⟨j + 1, n + z, by go_num, by go_num, by omega, by omega, (by have := unhide HN hnn; show _ → _; intro h; have := hz2 (by omega); rw [szL_take hlt]; omega), ((unhide HB).trans (hb1.mono (unhide HB).size))⟩
        · have HM3 : Hid (n < most → n = 1 + S.length + ns.length + sumL ns + szL D ts) := fun h => by
            have hjl : j = ts.length := by omega
            have := unhide HN h
            rw [hjl, List.take_length] at this
            exact this
          have hx : ((j : Int) < (ts.length : Int) ∧ (most : Int) ≤ (n : Int)) ∨ ¬ (j : Int) < (ts.length : Int) := by omega
          clear hc HN
          rcases hx with ⟨hlt, hmm⟩ | hlt
          all_goals
            go_wp2
            go_meet
            case rel => exact ⟨n, _, rfl, rfl, hn, unhide HM3, unhide HB⟩
    case rest =>
      clear hm1 HM1 HB1 HTy
      obtain ⟨m1, W1, rfl, rfl, hm1, HM1, HB1⟩ := hcut
      go_wp2_with fail
      go_loopg [5, 8] xs.length (fun gk nn i wr => ∃ k m : Nat, i = .int .i64 k ∧ nn = .int .i64 m ∧ k + gk = xs.length ∧ m ≤ most + 422212465053696 ∧ Hid (m < most → m = 1 + S.length + ns.length + sumL ns + szL D ts + szXL D d (xs.take k)) ∧ Hid (Below (w.alloc (exBox A K N ⟨S.toArray⟩ pt pn pp ts.length ns.length xs.length ct cn cp)).heap.size (w.alloc (exBox A K N ⟨S.toArray⟩ pt pn pp ts.length ns.length xs.length ct cn cp)) wr))
      case atStart => exact ⟨0, m1, rfl, rfl, by omega, hm1, (by show _ → _; intro h; have := unhide HM1 h; simp [szXL]; omega), unhide HB1⟩
      case round =>
        obtain ⟨j2, n2, rfl, rfl, hj2, hn2, HN2, HB⟩ := hrel
        obtain ⟨d0, d1, d2, d3, d4, d5, d6⟩ := exbox_cells (unhide HB)
        by_cases hc : j2 < xs.length ∧ n2 < most
        · obtain ⟨hlt, hnn⟩ := hc
          obtain ⟨u, ⟨g, o, A', K', N', S', qt, qn, q3, nt, c1, nn, c2, n3, c3, rfl, rfl, a0, a1, a2, a3, a4, a5, a6⟩, HI⟩ := unhide HP j2 hlt
          have hb := (unhide HA).trans ((unhide HB).mono (by simp))
          have b0 := (hb.cell (p := ⟨g, _, none⟩) (cell_at a0)).trans a0
          have b1 := (hb.cell (p := ⟨g, _, none⟩) (cell_at a1)).trans a1
          have b2 := (hb.cell (p := ⟨g, _, none⟩) (cell_at a2)).trans a2
          have b3 := (hb.cell (p := ⟨g, _, none⟩) (cell_at a3)).trans a3
          have b4 := (hb.cell (p := ⟨g, _, none⟩) (cell_at a4)).trans a4
          have b5 := (hb.cell (p := ⟨g, _, none⟩) (cell_at a5)).trans a5
          have b6 := (hb.cell (p := ⟨g, _, none⟩) (cell_at a6)).trans a6
          have hlt' : (j2 : Int) < (xs.length : Int) := by omega
          have hnn' : (n2 : Int) < (most : Int) := by omega
          have CL := hide (HI ((most : Int) - n2) (most - n2) wr (by omega) hb (by omega) (by omega))
          clear HI a0 a1 a2 a3 a4 a5 a6 hb
          go_wp2_with (go_at_call 6; refine (unhide CL).mono ?_; clear CL; rintro e w1 ⟨⟨z, rfl, hz1, hz2⟩, hb1⟩)
          go_roundg (xs.length - (j2 + 1))
          case measure => omega
          case rel => exact ⟨j2 + 1, n2 + z, by go_num, by go_num, by omega, by omega, (by have := unhide HN2 hnn; show _ → _; intro h; have := hz2 (by omega); rw [szXL_take hlt]; omega), ((unhide HB).trans (hb1.mono (unhide HB).size))⟩
        · have HE : Hid (n2 < most → n2 = szX D (d + 1) (A, K, N, S, ts, ns, xs)) := fun h => by
            have hjl : j2 = xs.length := by omega
            have := unhide HN2 h
            rw [hjl, List.take_length] at this
            rw [unhide HSZ]; exact this
          have hx : ((j2 : Int) < (xs.length : Int) ∧ (most : Int) ≤ (n2 : Int)) ∨ ¬ (j2 : Int) < (xs.length : Int) := by omega
          clear hc HN2 HP
          rcases hx with ⟨hlt, hmm⟩ | hlt
          all_goals
            go_wp2
            go_ret
            exact ⟨⟨n2, rfl, hn2, unhide HE⟩, (unhide HA).trans ((unhide HB).mono (by simp))⟩
theorem sizeX_any (D : Nat) : ∀ d, SizeXAt D d
  | 0 => fun t => nomatch t
  | d + 1 => sizeX_step D d (sizeX_any D d)
end Go.Proofs.YtmpbbmfbgcpplaaGreatDoor
/-
  SizeStmts of package coilkeep, walked: how many parts and bytes statements have, up to a limit.
-/
namespace Go.Proofs.YtmpbbmfbgcpplaaGreatDoor
open Go Go.RowKit Lx

end Go.Proofs.YtmpbbmfbgcpplaaGreatDoor
