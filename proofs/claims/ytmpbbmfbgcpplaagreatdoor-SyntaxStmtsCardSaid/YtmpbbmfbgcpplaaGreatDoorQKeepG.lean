import Derived.Test.YtmpbbmfbgcpplaaGreatDoorQSynA
import Derived.Deep.Slices
import Derived.Handed
import Derived.OpenShut
import Derived.Test.YtmpbbmfbgcpplaaGreatDoorQSynB
set_option maxHeartbeats 4000000
set_option maxRecDepth 100000
namespace Go.Proofs.YtmpbbmfbgcpplaaGreatDoor
open Go Go.ChangeShapes Go.WideShapes Go.ChangeAt Go.RowKit Go.Deep Lx
def TyWf : (d : Nat) → List (Ty d) → Prop
 | 0, _ => True
 | d + 1, ts => ts.length ≤ 140737488351232 ∧ ∀ t ∈ ts, t.2.1.length ≤ 140737488351232 ∧ t.2.2.1.length ≤ 140737488351232 ∧ (∀ s ∈ t.2.2.1, s.length ≤ 140737488351232) ∧ t.2.2.2.1.length ≤ 140737488351232 ∧ TyWf d t.2.2.2.2
abbrev Reached {H : Type} (t : TypeId) (D : DataW H) : Prop := ∀ n ∈ D.weights Tryz.prog t, n ≤ reachBytes
theorem bytes_str : Tryz.prog.bytesOf 9 = 16 := by kernel_rfl
theorem bytes_bool : Tryz.prog.bytesOf 4 = 1 := by kernel_rfl
theorem bytes_ty : Tryz.prog.bytesOf 53 = 96 := by kernel_rfl
theorem cells_str : Tryz.prog.cellsOf 9 = 1 := by kernel_rfl
theorem cells_bool : Tryz.prog.cellsOf 4 = 1 := by kernel_rfl
theorem cells_ty : Tryz.prog.cellsOf 53 = 5 := by kernel_rfl
theorem zkm {H : Type} {e : TypeId} : ∀ {l : List (DataW H)} {n : Nat} {d : DataW H}, d ∈ l → n ∈ d.weights Tryz.prog e → n ∈ DataW.weightsAll Tryz.prog e l
 | x :: r, n, d, hd, hn => by
  rw [DataW.weightsAll, List.mem_append]
  rcases List.mem_cons.1 hd with rfl | hd
  ·exact Or.inl hn
  ·exact Or.inr (zkm hd hn)
theorem reach_slice {H : Type} {t e : TypeId} {a b : List (DataW H)} (ht : Tryz.prog.underlying t = some (.slice e)) (h : Reached t (DataW.slice a b)) : (a.length + b.length) * Tryz.prog.bytesOf e ≤ reachBytes ∧ ∀ d ∈ a, Reached e d := by
 have h' : ∀ n ∈ (a.length + b.length) * Tryz.prog.bytesOf e :: (DataW.weightsAll Tryz.prog e a ++ DataW.weightsAll Tryz.prog e b), n ≤ reachBytes := by
  intro n hn
  refine h n ?_
  rw [DataW.weights, ht]
  exact hn
 exact ⟨h' _ (by simp), fun d hd n hn => h' n (by simp [zkm hd hn])⟩
section
variable {H : Type} {enc : TypeId × Value → H} {W : World}
theorem ze4 {t e : TypeId} {n c : Nat} {v : Value} {x : DataW H × List MemPlace} (ht : Tryz.prog.underlying t = some (.slice e)) (hc : Tryz.prog.cellsOf e = c) (h : DataW.trod enc Tryz.prog W 0 (fun _ => true) true n t [v] = some x) (hr : Reached t x.1) :
  (v = .slice none 0 0) ∨ ∃ (a : Addr) (len cap m : Nat), n = m + 1 ∧ v = .slice (some a) len cap ∧ len ≤ cap ∧ cap * Tryz.prog.bytesOf e ≤ reachBytes ∧
   ∀ i, i < len → ∃ (cs : List Value) (y : DataW H × List MemPlace), cs.length = c ∧ (∀ j, j < c → W.cell? (a.add (i * c + j)) = cs[j]?) ∧ DataW.trod enc Tryz.prog W 0 (fun _ => true) true m e cs = some y ∧ Reached e y.1 := by
 rcases DataW.trod_slice ht h with ⟨hcs, _⟩ | ⟨a, len, cap, elems, rest, m, rfl, hcs, rfl, _, hl, hm, hlen, hel, hsp, _⟩
 ·left; simpa using hcs
 ·right
  obtain rfl : v = .slice (some a) len cap := by simpa using hcs
  obtain ⟨h1, h2⟩ := reach_slice ht hr
  obtain ⟨hrl, _⟩ := hsp rfl
  have hcap : elems.length + rest.length = cap := by omega
  rw [List.length_map, List.length_map, hcap] at h1
  refine ⟨a, len, cap, m, rfl, rfl, hl, h1, fun i hi => ?_⟩
  have hx := hel i hi
  have hi' : i < elems.length := by omega
  rw [List.getElem?_eq_getElem hi'] at hx
  obtain ⟨cs, hcs', ht'⟩ := Option.bind_eq_some_iff.1 hx
  rw [hc] at hcs'
  obtain ⟨_, hlen', hcell⟩ := World.cells?_some hcs'
  refine ⟨cs, elems[i], hlen', fun j hj => ?_, ht', h2 _ (List.mem_map.2 ⟨_, List.getElem_mem hi', rfl⟩)⟩
  have := hcell j hj
  rw [add_add] at this
  exact this
theorem open_strs {n : Nat} {v : Value} {x : DataW H × List MemPlace} (h : DataW.trod enc Tryz.prog W 0 (fun _ => true) true n 25 [v] = some x) (hr : Reached 25 x.1) :
  ∃ ss : List Bs, SRow W v ss ∧ ss.length ≤ 140737488351232 ∧ ∀ s ∈ ss, s.length ≤ 140737488351232 := by
 rcases ze4 Tryz.underlying25 cells_str h hr with rfl | ⟨a, len, cap, m, rfl, rfl, hl, hcap, hx⟩
 ·exact ⟨[], ⟨none, 0, rfl, fun j t ht => by simp at ht⟩, by simp, by simp⟩
 ·rw [bytes_str] at hcap
  unfold reachBytes at hcap
  have each : ∀ i, i < len → ∃ s : Bs, W.cell? (a.add i) = some (.string ⟨s.toArray⟩) ∧ s.length ≤ 140737488351232 := by
   intro i hi
   obtain ⟨cs, y, hlen, hcell, ht, hry⟩ := hx i hi
   obtain ⟨s, rfl, rfl, _⟩ := DataW.trod_string Tryz.underlying9 ht
   have c0 := hcell 0 (by omega)
   have hs := hry s.data.toList.length (by rw [DataW.weights]; simp)
   unfold reachBytes at hs
   exact ⟨s.data.toList, by simpa using c0, hs⟩
  obtain ⟨q, hq⟩ := choose_lt each
  refine ⟨(List.range len).map q, ⟨some a, cap, by simp, fun j t ht => ?_⟩, by simp; omega, fun s hs => ?_⟩
  ·rw [List.getElem?_map] at ht
   have hj : j < len := by
    rcases Nat.lt_or_ge j len with h | h
    ·exact h
    ·rw [List.getElem?_eq_none (by simpa using h)] at ht; cases ht
   rw [List.getElem?_range hj] at ht
   obtain rfl : q j = t := by simpa using ht
   obtain ⟨c0, _⟩ := hq j hj
   obtain ⟨c00, _⟩ := hq 0 (by omega)
   obtain ⟨b, o, sp⟩ := a
   obtain rfl : sp = none := by simpa [Addr.add] using World.cell?_spot c00
   rw [Go.WideShapes.add_plain] at c0
   exact ⟨b, o, rfl, c0⟩
  ·obtain ⟨i, hi, rfl⟩ := List.mem_map.1 hs
   exact (hq i (List.mem_range.1 hi)).2
theorem open_bools {n : Nat} {v : Value} {x : DataW H × List MemPlace} (h : DataW.trod enc Tryz.prog W 0 (fun _ => true) true n 51 [v] = some x) (hr : Reached 51 x.1) :
  ∃ ss : List Bool, BRow W v ss ∧ ss.length ≤ 140737488351232 := by
 rcases ze4 Tryz.underlying51 cells_bool h hr with rfl | ⟨a, len, cap, m, rfl, rfl, hl, hcap, hx⟩
 ·exact ⟨[], ⟨none, 0, rfl, fun j t ht => by simp at ht⟩, by simp⟩
 ·rw [bytes_bool] at hcap
  unfold reachBytes at hcap
  have each : ∀ i, i < len → ∃ s : Bool, W.cell? (a.add i) = some (.bool s) := by
   intro i hi
   obtain ⟨cs, y, hlen, hcell, ht, hry⟩ := hx i hi
   obtain ⟨s, rfl, rfl⟩ := DataW.trod_bool Tryz.underlying4 ht
   have c0 := hcell 0 (by omega)
   exact ⟨s, by simpa using c0⟩
  obtain ⟨q, hq⟩ := choose_lt each
  refine ⟨(List.range len).map q, ⟨some a, cap, by simp, fun j t ht => ?_⟩, by simp; omega⟩
  rw [List.getElem?_map] at ht
  have hj : j < len := by
   rcases Nat.lt_or_ge j len with h | h
   ·exact h
   ·rw [List.getElem?_eq_none (by simpa using h)] at ht; cases ht
  rw [List.getElem?_range hj] at ht
  obtain rfl : q j = t := by simpa using ht
  have c0 := hq j hj
  have c00 := hq 0 (by omega)
  obtain ⟨b, o, sp⟩ := a
  obtain rfl : sp = none := by simpa [Addr.add] using World.cell?_spot c00
  rw [Go.WideShapes.add_plain] at c0
  exact ⟨b, o, rfl, c0⟩
def zhz (enc : TypeId × Value → H) (W : World) (k : Nat) : Prop := ∀ (v : Value) (x : DataW H × List MemPlace), DataW.trod enc Tryz.prog W 0 (fun _ => true) true (2 * k + 2) 24 [v] = some x → Reached 24 x.1 → ∃ ts : List (Ty k), TyRow W k v ts ∧ TyWf k ts
theorem weights_five {t0 t1 t2 t3 t4 : TypeId} {y0 y1 y2 y3 y4 : DataW H} {n : Nat} : n ∈ y0.weights Tryz.prog t0 ∨ n ∈ y1.weights Tryz.prog t1 ∨ n ∈ y2.weights Tryz.prog t2 ∨ n ∈ y3.weights Tryz.prog t3 ∨ n ∈ y4.weights Tryz.prog t4 → n ∈ DataW.weightsEach Tryz.prog [t0, t1, t2, t3, t4] [y0, y1, y2, y3, y4] := by
 intro h
 simp only [DataW.weightsEach, List.mem_append]
 rcases h with h | h | h | h | h
 ·exact Or.inl h
 ·exact Or.inr (Or.inl h)
 ·exact Or.inr (Or.inr (Or.inl h))
 ·exact Or.inr (Or.inr (Or.inr (Or.inl h)))
 ·exact Or.inr (Or.inr (Or.inr (Or.inr (Or.inl h))))
theorem open_ty_cells {k : Nat} (IH : zhz enc W k) {cs : List Value} {x : DataW H × List MemPlace} (h : DataW.trod enc Tryz.prog W 0 (fun _ => true) true (2 * k + 3) 53 cs = some x) (hr : Reached 53 x.1) :
  ∃ (t : Ty (k + 1)) (vn ve vp : Value), cs = [.int .i64 t.1, .string ⟨t.2.1.toArray⟩, vn, ve, vp] ∧ SRow W vn t.2.2.1 ∧ BRow W ve t.2.2.2.1 ∧ TyRow W k vp t.2.2.2.2 ∧
   t.2.1.length ≤ 140737488351232 ∧ t.2.2.1.length ≤ 140737488351232 ∧ (∀ s ∈ t.2.2.1, s.length ≤ 140737488351232) ∧ t.2.2.2.1.length ≤ 140737488351232 ∧ TyWf k t.2.2.2.2 := by
 obtain ⟨xs, m, hm, rfl, hl, hxl, hf⟩ := DataW.trod_struct Tryz.underlying53 h
 obtain rfl : m = 2 * k + 2 := by omega
 rw [cells_ty] at hl
 match cs, hl with
 | [c0, c1, c2, c3, c4], _ =>
  have hx : xs.length = 5 := hxl
  match xs, hx with
  | [y0, y1, y2, y3, y4], _ =>
   have g0 := hf 0 _ rfl
   have g1 := hf 1 _ rfl
   have g2 := hf 2 _ rfl
   have g3 := hf 3 _ rfl
   have g4 := hf 4 _ rfl
   simp only [List.getElem?_cons_zero, List.getElem?_cons_succ] at g0 g1 g2 g3 g4
   have hw : ∀ n, (n ∈ y1.1.weights Tryz.prog 9 ∨ n ∈ y2.1.weights Tryz.prog 25 ∨ n ∈ y3.1.weights Tryz.prog 51 ∨ n ∈ y4.1.weights Tryz.prog 24) → n ≤ reachBytes := fun n hn => hr n (by
    show n ∈ DataW.weights Tryz.prog 53 (.agg [y0.1, y1.1, y2.1, y3.1, y4.1])
    rw [DataW.weights, Tryz.underlying53]
    exact weights_five (t0 := 3) (Or.inr hn))
   obtain ⟨z, e0, _, _⟩ := DataW.trod_int Tryz.underlying3 g0
   obtain ⟨s, e1, e1', _⟩ := DataW.trod_string Tryz.underlying9 g1
   obtain ⟨ns, r1, r2, r3⟩ := open_strs (v := c2) g2 (fun n hn => hw n (Or.inr (Or.inl hn)))
   obtain ⟨es, r4, r5⟩ := open_bools (v := c3) g3 (fun n hn => hw n (Or.inr (Or.inr (Or.inl hn))))
   obtain ⟨ts, r6, r7⟩ := IH c4 _ g4 (fun n hn => hw n (Or.inr (Or.inr (Or.inr hn))))
   have hs := hw s.data.toList.length (Or.inl (by rw [e1', DataW.weights]; simp))
   unfold reachBytes at hs
   obtain rfl : c0 = .int .i64 z := (List.cons.inj (show [c0] = [Value.int .i64 z] from e0)).1
   obtain rfl : c1 = .string s := (List.cons.inj (show [c1] = [Value.string s] from e1)).1
   exact ⟨(z, s.data.toList, ns, es, ts), c2, c3, c4, rfl, r1, r4, r6, hs, r2, r3, r5, r7⟩
theorem opens_succ {k : Nat} (IH : zhz enc W k) : zhz enc W (k + 1) := fun v x h hr => by
 rcases ze4 Tryz.underlying24 cells_ty h hr with rfl | ⟨a, len, cap, m, hm, rfl, hl, hcap, hx⟩
 ·exact ⟨[], ⟨none, 0, rfl, fun j t ht => by simp at ht⟩, by simp, by simp⟩
 ·obtain rfl : m = 2 * k + 3 := by omega
  rw [bytes_ty] at hcap
  unfold reachBytes at hcap
  have each : ∀ i, i < len → ∃ q : Ty (k + 1) × Value × Value × Value, (W.cell? (a.add (i * 5)) = some (.int .i64 q.1.1) ∧ W.cell? (a.add (i * 5 + 1)) = some (.string ⟨q.1.2.1.toArray⟩) ∧ W.cell? (a.add (i * 5 + 2)) = some q.2.1 ∧ W.cell? (a.add (i * 5 + 3)) = some q.2.2.1 ∧ W.cell? (a.add (i * 5 + 4)) = some q.2.2.2) ∧
    (SRow W q.2.1 q.1.2.2.1 ∧ BRow W q.2.2.1 q.1.2.2.2.1 ∧ TyRow W k q.2.2.2 q.1.2.2.2.2) ∧ q.1.2.1.length ≤ 140737488351232 ∧ q.1.2.2.1.length ≤ 140737488351232 ∧ (∀ s ∈ q.1.2.2.1, s.length ≤ 140737488351232) ∧ q.1.2.2.2.1.length ≤ 140737488351232 ∧ TyWf k q.1.2.2.2.2 := by
   intro i hi
   obtain ⟨cs, y, hlen, hcell, ht, hry⟩ := hx i hi
   obtain ⟨t, vn, ve, vp, rfl, r1, r2, r3, r4⟩ := open_ty_cells IH ht hry
   exact ⟨(t, vn, ve, vp), ⟨by simpa using hcell 0 (by omega), by simpa using hcell 1 (by omega), by simpa using hcell 2 (by omega), by simpa using hcell 3 (by omega), by simpa using hcell 4 (by omega)⟩, ⟨r1, r2, r3⟩, r4⟩
  have hin : Inhabited (Ty (k + 1) × Value × Value × Value) := ⟨((0, [], [], [], []), .bool true, .bool true, .bool true)⟩
  obtain ⟨q, hq⟩ := choose_lt each
  refine ⟨(List.range len).map fun i => (q i).1, ⟨some a, cap, by simp, fun j t ht => ?_⟩, by simp; omega, fun s hs => ?_⟩
  ·rw [List.getElem?_map] at ht
   have hj : j < len := by
    rcases Nat.lt_or_ge j len with h | h
    ·exact h
    ·rw [List.getElem?_eq_none (by simpa using h)] at ht; cases ht
   rw [List.getElem?_range hj] at ht
   obtain rfl : (q j).1 = t := by simpa using ht
   obtain ⟨⟨c0, c1, c2, c3, c4⟩, ⟨r1, r2, r3⟩, _⟩ := hq j hj
   obtain ⟨⟨c00, _⟩, _⟩ := hq 0 (by omega)
   obtain ⟨b, o, sp⟩ := a
   obtain rfl : sp = none := by simpa [Addr.add] using World.cell?_spot c00
   rw [Go.WideShapes.add_plain] at c0 c1 c2 c3 c4
   exact ⟨b, o, _, _, _, rfl, c0, by simpa [Nat.add_assoc] using c1, by simpa [Nat.add_assoc] using c2, by simpa [Nat.add_assoc] using c3, by simpa [Nat.add_assoc] using c4, r1, r2, r3⟩
  ·obtain ⟨i, hi, rfl⟩ := List.mem_map.1 hs
   exact (hq i (List.mem_range.1 hi)).2.2
theorem opens_zero : zhz enc W 0 := fun v x h hr => by
 rcases ze4 Tryz.underlying24 cells_ty h hr with rfl | ⟨a, len, cap, m, hm, rfl, hl, hcap, hx⟩
 ·exact ⟨[], ⟨none, 0, rfl⟩, trivial⟩
 ·obtain rfl : m = 1 := by omega
  rcases Nat.eq_zero_or_pos len with rfl | hpos
  ·exact ⟨[], ⟨some a, cap, rfl⟩, trivial⟩
  ·obtain ⟨cs, y, hlen, hcell, ht, hry⟩ := hx 0 hpos
   obtain ⟨xs, n, hn, rfl, hl', hxl, hf⟩ := DataW.trod_struct Tryz.underlying53 ht
   obtain rfl : n = 0 := by omega
   have g0 := hf 0 _ rfl
   have hx5 : xs.length = 5 := hxl
   rw [List.getElem?_eq_getElem (by omega)] at g0
   simp [DataW.trod] at g0
theorem zkx : ∀ k, zhz enc W k
 | 0 => opens_zero
 | k + 1 => opens_succ (zkx k)
end
open Go Go.RowKit Lx
def TyValD (W : World) : (d : Nat) → Value → Ty d → Prop
 | 0, _, _ => False
 | d + 1, v, t => TyVal W d v t
theorem TyValD.below {w w' : World} (hb : Below w.heap.size w w') : ∀ {d : Nat} {v : Value} {t : Ty d}, TyValD w d v t → TyValD w' d v t
 | 0, _, _, h => h
 | _ + 1, _, _, h => TyVal.below h hb
def zhu (W : World) (pp : Option Addr) (k : Nat) (v : Value) : Prop :=
 ∃ (g o : Nat) (K : Int) (S : ByteArray) (pn pe p3 : Option Addr) (nn cn ne ce n3 c3 : Nat), pp = some ⟨g, o, none⟩ ∧ v = .agg #[.int .i64 K, .string S, .slice pn nn cn, .slice pe ne ce, .slice p3 n3 c3] ∧
  W.cell? ⟨g, o + k * 5, none⟩ = some (.int .i64 K) ∧ W.cell? ⟨g, o + k * 5 + 1, none⟩ = some (.string S) ∧ W.cell? ⟨g, o + k * 5 + 2, none⟩ = some (.slice pn nn cn) ∧ W.cell? ⟨g, o + k * 5 + 3, none⟩ = some (.slice pe ne ce) ∧ W.cell? ⟨g, o + k * 5 + 4, none⟩ = some (.slice p3 n3 c3)
theorem TyRow.at {w : World} : ∀ {d : Nat} {pp : Option Addr} {cp : Nat} {ts : List (Ty d)}, TyRow w d (.slice pp ts.length cp) ts → ∀ (k : Nat) (hk : k < ts.length), ∃ v, zhu w pp k v ∧ TyValD w d v ts[k]
 | 0, _, _, ts, _, k, hk => by
  match ts, hk with
  | t :: _, _ => exact nomatch t
 | d + 1, pp, cp, ts, h, k, hk => by
  obtain ⟨p, c, e, hp⟩ := h
  injection e with e1 e2 e3
  subst e1
  obtain ⟨g, o, vn, ve, vp, rfl, a0, a1, a2, a3, a4, r1, r2, r3⟩ := hp k ts[k] (by simp)
  obtain ⟨pn, cn, rfl, h1⟩ := r1
  obtain ⟨pe, ce, rfl, h2⟩ := r2
  obtain ⟨p3, c3, rfl⟩ := r3.slice
  exact ⟨_, ⟨g, o, _, _, pn, pe, p3, _, cn, _, ce, _, c3, rfl, rfl, a0, a1, a2, a3, a4⟩, pn, pe, p3, cn, ce, c3, rfl, ⟨pn, cn, rfl, h1⟩, ⟨pe, ce, rfl, h2⟩, r3⟩
def WfD : (d : Nat) → Ty d → Prop
 | 0, _ => False
 | d + 1, t => t.2.1.length ≤ 140737488351232 ∧ t.2.2.1.length ≤ 140737488351232 ∧ (∀ s ∈ t.2.2.1, s.length ≤ 140737488351232) ∧ t.2.2.2.1.length ≤ 140737488351232 ∧ t.2.2.2.2.length ≤ 140737488351232 ∧ ∀ u ∈ t.2.2.2.2, WfD d u
theorem TyWf.each : ∀ {d : Nat} {ts : List (Ty d)}, TyWf d ts → ts.length ≤ 140737488351232 ∧ ∀ u ∈ ts, WfD d u
 | 0, [], _ => ⟨by simp, by simp⟩
 | 0, t :: _, _ => nomatch t
 | d + 1, ts, h => ⟨h.1, fun u hu => by
  obtain ⟨h1, h2, h3, h4, h5⟩ := h.2 u hu
  obtain ⟨h6, h7⟩ := TyWf.each h5
  exact ⟨h1, h2, h3, h4, h6, h7⟩⟩
theorem zet : ∀ {l : List Nat} {n : Nat}, n ∈ l → n ≤ l.sum
 | x :: r, n, h => by
  rw [List.sum_cons]
  rcases List.mem_cons.1 h with rfl | h
  ·omega
  ·have := zet h
   omega
def zgs (ns : List Bs) : Nat := (ns.map List.length).sum
theorem sumL_take {ns : List Bs} {k : Nat} (h : k < ns.length) : zgs (ns.take (k + 1)) = zgs (ns.take k) + ns[k].length := by
 rw [List.take_succ_eq_append_getElem h]; unfold zgs; rw [List.map_append, List.sum_append]; simp
def szD : (d : Nat) → Ty d → Nat
 | 0, _ => 0
 | d + 1, t => 1 + t.2.1.length + t.2.2.1.length + t.2.2.2.1.length + zgs t.2.2.1 + (t.2.2.2.2.map (szD d)).sum
def szL (d : Nat) (ts : List (Ty d)) : Nat := (ts.map (szD d)).sum
theorem zgi {d : Nat} {ts : List (Ty d)} {k : Nat} (h : k < ts.length) : szL d (ts.take (k + 1)) = szL d (ts.take k) + szD d ts[k] := by
 rw [List.take_succ_eq_append_getElem h]; unfold szL; rw [List.map_append, List.sum_append]; simp
theorem zd5 : ∀ (d : Nat) (ts : List (Ty d)), many d ts ≤ szL d ts
 | 0, _ => by simp [many]
 | _ + 1, [] => by simp [many]
 | d + 1, t :: r => by
  have h1 := zd5 d t.2.2.2.2
  have h2 := zd5 (d + 1) r
  have e : szL (d + 1) (t :: r) = szD (d + 1) t + szL (d + 1) r := by simp [szL]
  rw [many, e, szD]
  unfold szL at h1
  omega
theorem sumL_mem {ns : List Bs} {s : Bs} (h : s ∈ ns) : s.length ≤ zgs ns := zet (List.mem_map.2 ⟨s, h, rfl⟩)
theorem ze6 {d : Nat} {ts : List (Ty d)} {t : Ty d} (h : t ∈ ts) : szD d t ≤ szL d ts := zet (List.mem_map.2 ⟨t, h, rfl⟩)
theorem zj6 : ∀ {d : Nat} {ts : List (Ty d)}, szL d ts ≤ 1000000 → zck d ts
 | 0, _, _ => trivial
 | d + 1, ts, h => by
  refine ⟨Nat.le_trans (zcr _ ts) (Nat.le_trans (zd5 _ ts) h), fun t ht => ?_⟩
  have h1 := ze6 ht
  rw [szD] at h1
  have h2 : szL d t.2.2.2.2 ≤ 1000000 := by unfold szL; omega
  have h3 := Nat.le_trans (zcr _ t.2.2.2.2) (zd5 _ t.2.2.2.2)
  refine ⟨⟨by omega, by omega, fun s hs => ?_, by omega, by omega⟩, zj6 h2⟩
  have := sumL_mem hs
  omega
def SizeAt (d : Nat) : Prop := ∀ (t : Ty d) (v : Value) (q : Int) (most : Nat) (w : World), q = most → TyValD w d v t → WfD d t → 1 ≤ most → most ≤ 100000 →
 Calls Tryz.prog 29 #[v, .int .i64 q] w fun e w' => (∃ n : Nat, e = .returned (.int .i64 (n : Nat)) ∧ n ≤ most + 422212465053696 ∧ (n < most → n = szD d t)) ∧ Below w.heap.size w w'
abbrev ze7 (K : Int) (S : ByteArray) (pn pe pp : Option Addr) (nn ne np cn ce cp : Nat) : Obj := .cells #[.int .i64 K, .string S, .slice pn nn cn, .slice pe ne ce, .slice pp np cp] 53
theorem zek {K : Int} {S : ByteArray} {pn pe pp : Option Addr} {nn ne np cn ce cp : Nat} {w wr : World} (hb : Below (w.alloc (ze7 K S pn pe pp nn ne np cn ce cp)).heap.size (w.alloc (ze7 K S pn pe pp nn ne np cn ce cp)) wr) :
  wr.cell? ⟨w.heap.size, 0, none⟩ = some (.int .i64 K) ∧ wr.cell? ⟨w.heap.size, 1, none⟩ = some (.string S) ∧ wr.cell? ⟨w.heap.size, 2, none⟩ = some (.slice pn nn cn) ∧ wr.cell? ⟨w.heap.size, 3, none⟩ = some (.slice pe ne ce) ∧ wr.cell? ⟨w.heap.size, 4, none⟩ = some (.slice pp np cp) := by
 have h : ∀ j, wr.cell? ⟨w.heap.size, j, none⟩ = (#[Value.int .i64 K, .string S, .slice pn nn cn, .slice pe ne ce, .slice pp np cp])[j]? := fun j => by
  rw [hb.cell (p := ⟨w.heap.size, j, none⟩) (by simp), World.cell?_alloc_at _ _ _ _ rfl]
 exact ⟨h 0, h 1, h 2, h 3, h 4⟩
theorem size_step (d : Nat) (IH : SizeAt d) : SizeAt (d + 1) := fun t v q most w hq hv hw h1 hmx => by
 subst hq
 obtain ⟨pn, pe, pp, cn, ce, cp, rfl, r1, r2, r3⟩ := hv
 obtain ⟨w1, w2, w3, w4, w5, w6⟩ := hw
 obtain ⟨K, S, ns, es, ts⟩ := t
 dsimp only at *
 have hbA : Below w.heap.size w (w.alloc (ze7 K ⟨S.toArray⟩ pn pe pp ns.length es.length ts.length cn ce cp)) := (Below.refl _ _).alloc (Nat.le_refl _) _
 obtain ⟨p, c, e, hp⟩ := r1
 injection e with e1 e2 e3
 subst e1 e3
 have HN : Hid (∀ k (hk : k < ns.length), ∃ g o, pn = some ⟨g, o, none⟩ ∧ w.cell? ⟨g, o + k, none⟩ = some (.string ⟨ns[k].toArray⟩) ∧ ns[k].length ≤ 140737488351232) := fun k hk => by
  obtain ⟨g, o, e, a⟩ := hp k ns[k] (by simp)
  exact ⟨g, o, e, a, w3 _ (by simp)⟩
 have HP : Hid (∀ k (hk : k < ts.length), ∃ u, zhu w pp k u ∧ ∀ (q : Int) (most : Nat) W, q = most → Below w.heap.size w W → 1 ≤ most → most ≤ 100000 → Calls Tryz.prog 29 #[u, .int .i64 q] W fun e w' => (∃ n : Nat, e = .returned (.int .i64 (n : Nat)) ∧ n ≤ most + 422212465053696 ∧ (n < most → n = szD d ts[k])) ∧ Below W.heap.size W w') := fun k hk => by
  obtain ⟨u, hu, hv⟩ := r3.at k hk
  exact ⟨u, hu, fun q most W hq hW h1 h2 => IH _ u q most W hq (TyValD.below hW hv) (w6 _ (by simp)) h1 h2⟩
 have HSZ : Hid (szD (d + 1) (K, S, ns, es, ts) = 1 + S.length + ns.length + es.length + zgs ns + szL d ts) := rfl
 have HA := za3 hbA
 have hS : S.toArray.size = S.length := by simp
 have hS' : ByteArray.size ⟨S.toArray⟩ = S.length := hS
 clear hp r2 r3 IH hbA w3 w6
 go_enter Tryz.func29, Tryz.ntmps29
 go_wp2
 go_loop [5, 6] (fun n i => ∃ k m : Nat, i = .int .i64 k ∧ n = .int .i64 m ∧ k ≤ ns.length ∧ m ≤ most + 422212465053696 ∧ Hid (m < most → m = 1 + S.length + ns.length + es.length + zgs (ns.take k))) (fun _ i => ns.length - (intOf i).toNat)
 case atStart => exact ⟨0, 1 + S.length + ns.length + es.length, rfl, by go_num, by omega, by omega, (by show _ → _; intro _; simp [zgs])⟩
 case round =>
  obtain ⟨k, m, rfl, rfl, hk, hm, HM⟩ := hrel
  by_cases hc : k < ns.length ∧ m < most
  ·obtain ⟨hlt, hmm⟩ := hc
   obtain ⟨g, o, rfl, a0, hl⟩ := za0 HN k hlt
   have hlt' : (k : Int) < (ns.length : Int) := by omega
   have hmm' : (m : Int) < (most : Int) := by omega
   have hz : ByteArray.size ⟨ns[k].toArray⟩ = ns[k].length := by show ns[k].toArray.size = _; simp
   have hg := za2 a0
   go_wp2
   go_round
   case rel => exact ⟨k + 1, m + ns[k].length, by go_num, by go_num, by omega, by omega, (by have := za0 HM hmm; show _ → _; intro _; rw [sumL_take hlt]; omega)⟩
   case measure => simp [intOf]; omega
  ·have HM2 : Hid (m < most → m = 1 + S.length + ns.length + es.length + zgs ns) := fun h => by
    have hkl : k = ns.length := by omega
    have := za0 HM h
    rw [hkl, List.take_length] at this
    exact this
   have hx : ((k : Int) < (ns.length : Int) ∧ (most : Int) ≤ (m : Int)) ∨ ¬ (k : Int) < (ns.length : Int) := by omega
   clear hc HM HN
   rcases hx with ⟨hlt, hmm⟩ | hlt
   all_goals
    go_wp2
    go_loopw [5, 7] (fun n i wr => ∃ k m : Nat, i = .int .i64 k ∧ n = .int .i64 m ∧ k ≤ ts.length ∧ m ≤ most + 422212465053696 ∧ Hid (m < most → m = 1 + S.length + ns.length + es.length + zgs ns + szL d (ts.take k)) ∧ Hid (Below (w.alloc (ze7 K ⟨S.toArray⟩ pn pe pp ns.length es.length ts.length cn ce cp)).heap.size (w.alloc (ze7 K ⟨S.toArray⟩ pn pe pp ns.length es.length ts.length cn ce cp)) wr)) (fun _ i _ => ts.length - (intOf i).toNat)
    case atStart => exact ⟨0, m, rfl, rfl, by omega, hm, (by show _ → _; intro h; have := za0 HM2 h; simp [szL]; omega), Below.refl _ _⟩
    case round =>
     clear hm hlt HM2 hk
     obtain ⟨j, n, rfl, rfl, hj, hn, HN, HB⟩ := hrel
     obtain ⟨d0, d1, d2, d3, d4⟩ := zek (za0 HB)
     by_cases hc : j < ts.length ∧ n < most
     ·obtain ⟨hlt, hnn⟩ := hc
      obtain ⟨u, ⟨g, o, K', S', qn, qe, q3, nn, c1, ne, c2, n3, c3, rfl, rfl, a0, a1, a2, a3, a4⟩, HI⟩ := za0 HP j hlt
      have hb := (za0 HA).trans ((za0 HB).mono (by simp))
      have b0 := (hb.cell (p := ⟨g, _, none⟩) (za2 a0)).trans a0
      have b1 := (hb.cell (p := ⟨g, _, none⟩) (za2 a1)).trans a1
      have b2 := (hb.cell (p := ⟨g, _, none⟩) (za2 a2)).trans a2
      have b3 := (hb.cell (p := ⟨g, _, none⟩) (za2 a3)).trans a3
      have b4 := (hb.cell (p := ⟨g, _, none⟩) (za2 a4)).trans a4
      have hlt' : (j : Int) < (ts.length : Int) := by omega
      have hnn' : (n : Int) < (most : Int) := by omega
      have CL := za3 (HI ((most : Int) - n) (most - n) wr (by omega) hb (by omega) (by omega))
      clear HI a0 a1 a2 a3 a4 hb
      go_wp2_with (go_at_call 29; refine (za0 CL).mono ?_; clear CL; rintro e w1 ⟨⟨z, rfl, hz1, hz2⟩, hb1⟩)
      go_roundw
      case rel => exact ⟨j + 1, n + z, by go_num, by go_num, by omega, by omega, (by have := za0 HN hnn; show _ → _; intro h; have := hz2 (by omega); rw [zgi hlt]; omega), ((za0 HB).trans (hb1.mono (za0 HB).size))⟩
      case measure => simp [intOf]; omega
     ·have HE : Hid (n < most → n = szD (d + 1) (K, S, ns, es, ts)) := fun h => by
       have hjl : j = ts.length := by omega
       have := za0 HN h
       rw [hjl, List.take_length] at this
       rw [za0 HSZ]; exact this
      have hx : ((j : Int) < (ts.length : Int) ∧ (most : Int) ≤ (n : Int)) ∨ ¬ (j : Int) < (ts.length : Int) := by omega
      clear hc HN HP
      rcases hx with ⟨hlt, hmm⟩ | hlt
      all_goals
       go_wp2
       go_ret
       exact ⟨⟨n, rfl, hn, za0 HE⟩, (za0 HA).trans ((za0 HB).mono (by simp))⟩
theorem size_any : ∀ d, SizeAt d
 | 0 => fun t => nomatch t
 | d + 1 => size_step d (size_any d)
end Go.Proofs.YtmpbbmfbgcpplaaGreatDoor
