import Derived.Test.YtmpbbmfbgcpplaaGreatDoorQKeepG
import Derived.Test.YtmpbbmfbgcpplaaGreatDoorQNamesG
import Derived.Deep.AppendLies
import Derived.Deep.Upon
import Derived.Test.YtmpbbmfbgcpplaaGreatDoorQEqG
import Derived.Test.YtmpbbmfbgcpplaaGreatDoorQRunsC
import Derived.Deep.DeepCutAuto
set_option maxHeartbeats 4000000
set_option maxRecDepth 100000
namespace Go.Proofs.YtmpbbmfbgcpplaaGreatDoor
open Go Go.RowKit Lx
def Fr (B : Nat) (o : Option Nat) (W : World) (P : World → Prop) : Prop := ∀ W' : World, (∀ j, B ≤ j → j < W.heap.size → some j ≠ o → W'.heap[j]? = W.heap[j]?) → P W'
theorem Fr.step {B : Nat} {o o2 : Option Nat} {W W2 : World} {P : World → Prop} (h : Fr B o W P) (hs : W.heap.size ≤ W2.heap.size) (hg : ∀ j, j < W.heap.size → some j ≠ o → W2.heap[j]? = W.heap[j]?) (ho : o2 = o ∨ ∀ g, o2 = some g → W.heap.size ≤ g) : Fr B o2 W2 P := fun W' hW' => h W' fun j hB hj hne => by
 rw [hW' j hB (by omega) ?_, hg j hj hne]
 rcases ho with rfl | ho
 ·exact hne
 ·intro e
  have := ho j e.symm
  omega
abbrev V5 : Type := Value × Value × Value × Value × Value
def zdc (u : V5) : List Value := [u.1, u.2.1, u.2.2.1, u.2.2.2.1, u.2.2.2.2]
def val5 (u : V5) : Value := .agg #[u.1, u.2.1, u.2.2.1, u.2.2.2.1, u.2.2.2.2]
theorem cells5_at : ∀ (es : List V5) (j i : Nat) (u : V5) (c : Value), es[j]? = some u → (zdc u)[i]? = some c → (es.flatMap zdc)[j * 5 + i]? = some c
 | [], j, i, u, c, h, _ => by simp at h
 | x :: r, 0, i, u, c, h, hc => by
  simp at h; subst h
  have hi : i < (zdc x).length := (List.getElem?_eq_some_iff.1 hc).1
  rw [List.flatMap_cons, show 0 * 5 + i = i by omega, List.getElem?_append_left hi]; exact hc
 | x :: r, j + 1, i, u, c, h, hc => by
  have ih := cells5_at r j i u c (by simpa using h) hc
  rw [List.flatMap_cons, List.getElem?_append_right (by simp [zdc]; omega), show (j + 1) * 5 + i - (zdc x).length = j * 5 + i by simp [zdc]; omega]
  exact ih
def OTys (B : Nat) (W : World) (v : Value) (d : Nat) (ts : List (Ty d)) : Prop :=
 ∃ es : List V5, es.length = ts.length ∧ W.ownsRow B 53 5 v ts.length (es.flatMap zdc) ∧ ∀ (j : Nat) (u : V5) (t : Ty d), es[j]? = some u → ts[j]? = some t → Fr B v.ownBlock W (fun W' => TyValD W' d (val5 u) t)
theorem OTys.nil (B : Nat) (W : World) (d : Nat) : OTys B W (.slice none 0 0) d [] := ⟨[], rfl, World.ownsRow_nil _ _ _ _, fun j u t h => by simp at h⟩
theorem OTys.row {B : Nat} {W : World} {v : Value} {ts : List (Ty 0)} : OTys B W v 0 ts → ts = [] := fun _ => by
 cases ts with
 | nil => rfl
 | cons t _ => exact nomatch t
theorem zhl {W W' : World} {g i : Nat} (h : W'.heap[g]? = W.heap[g]?) : W'.cell? ⟨g, i, none⟩ = W.cell? ⟨g, i, none⟩ := World.cell?_of_block h
theorem zaq {W : World} {B e size n : Nat} {v : Value} {xs : List Value} (h : W.ownsRow B e size v n xs) : ∃ p c, v = .slice p n c ∧ n ≤ c := by
 rcases h.2 with ⟨rfl, h0⟩ | ⟨g, cap, cur, rfl, _, _, hc, _⟩
 ·exact ⟨none, 0, by rw [h0], by omega⟩
 ·exact ⟨_, _, rfl, hc⟩
theorem OTys.rows {B : Nat} {W : World} {v : Value} : ∀ {d : Nat} {ts : List (Ty d)}, OTys B W v d ts → ∀ W' : World, (∀ j, B ≤ j → j < W.heap.size → W'.heap[j]? = W.heap[j]?) → TyRow W' d v ts
 | 0, ts, h, W', _ => by
  obtain rfl := h.row
  obtain ⟨es, _, ho, _⟩ := h
  obtain ⟨p, c, rfl, _⟩ := zaq ho
  exact ⟨p, c, rfl⟩
 | d + 1, ts, ⟨es, hl, ho, he⟩, W', hW' => by
  obtain ⟨p, c, rfl, hc⟩ := zaq ho
  refine ⟨p, c, rfl, fun j t ht => ?_⟩
  have hj : j < ts.length := (List.getElem?_eq_some_iff.1 ht).1
  have hu : es[j]? = some es[j] := by simp
  have hv := he j _ t hu ht W' fun i h1 h2 _ => hW' i h1 h2
  obtain ⟨pn, pe, pp, cn, ce, cp, e, r1, r2, r3⟩ := hv
  have e' : #[es[j].1, es[j].2.1, es[j].2.2.1, es[j].2.2.2.1, es[j].2.2.2.2] = #[Value.int .i64 t.1, .string ⟨t.2.1.toArray⟩, .slice pn t.2.2.1.length cn, .slice pe t.2.2.2.1.length ce, .slice pp t.2.2.2.2.length cp] := by
   unfold val5 at e
   injection e
  have e2 : [es[j].1, es[j].2.1, es[j].2.2.1, es[j].2.2.2.1, es[j].2.2.2.2] = [Value.int .i64 t.1, .string ⟨t.2.1.toArray⟩, .slice pn t.2.2.1.length cn, .slice pe t.2.2.2.1.length ce, .slice pp t.2.2.2.2.length cp] := congrArg Array.toList e'
  simp only [List.cons.injEq, and_true] at e2
  obtain ⟨q0, q1, q2, q3, q4⟩ := e2
  rcases ho.2 with ⟨_, h0⟩ | ⟨g, cap, cur, e3, hb, hg, _⟩
  ·omega
  ·injection e3 with e4 _ _
   subst e4
   have hlt := (Array.getElem?_eq_some_iff.1 hg).1
   have hcell : ∀ i x, (zdc es[j])[i]? = some x → W'.cell? ⟨g, 0 + j * 5 + i, none⟩ = some x := fun i x hx => by
    rw [zhl (hW' g hb hlt), Nat.zero_add]
    have := ho.cells (g := g) rfl _ _ (cells5_at es j i _ x hu hx)
    rwa [addr_add] at this
   exact ⟨g, 0, _, _, _, rfl, (by have := hcell 0 _ rfl; rw [q0] at this; simpa using this), (by have := hcell 1 _ rfl; rw [q1] at this; exact this), (by have := hcell 2 _ rfl; rw [q2] at this; exact this), (by have := hcell 3 _ rfl; rw [q3] at this; exact this), (by have := hcell 4 _ rfl; rw [q4] at this; exact this), r1, r2, r3⟩
theorem info_ty : (Tryz.prog.info? 53).map (fun i => (i.zero, i.size, i.bytes)) = some (some (.agg #[.int .i64 0, .string ⟨#[]⟩, .slice none 0 0, .slice none 0 0, .slice none 0 0]), 5, 96) := by kernel_rfl
theorem ziz {B d : Nat} {wr W2 : World} {v : Value} {ts : List (Ty d)} {t : Ty d} {u : V5} (h : OTys B wr v d ts) (hB : B ≤ wr.heap.size) (hb : Below wr.heap.size wr W2) (hu : ∀ W' : World, (∀ j, wr.heap.size ≤ j → j < W2.heap.size → W'.heap[j]? = W2.heap[j]?) → TyValD W' d (val5 u) t) (h1 : ∀ x ∈ zdc u, x.oneCell' = true) (hl : ts.length ≤ 1000000) :
  ∃ (g cap : Nat) (W4 : World), (Builtin.append_ #[24, 24] 24 #[v, .slice (some ⟨W2.heap.size, 0, none⟩) 1 1]).run Tryz.prog (W2.alloc (.cells #[u.1, u.2.1, u.2.2.1, u.2.2.2.1, u.2.2.2.2] 53)) = .ok (.slice (some ⟨g, 0, none⟩) (ts.length + 1) cap) W4 ∧
   OTys B W4 (.slice (some ⟨g, 0, none⟩) (ts.length + 1) cap) d (ts ++ [t]) ∧ W2.heap.size ≤ W4.heap.size ∧ (∀ j, j < W2.heap.size → some j ≠ v.ownBlock → W4.heap[j]? = W2.heap[j]?) ∧ Below B wr W4 := by
 obtain ⟨es, hel, ho, he⟩ := h
 obtain ⟨i0, hi, hz0, hz1, hz2⟩ := info_parts info_ty
 have hs2 := hb.size
 have ho2 : W2.ownsRow B 53 5 v ts.length (es.flatMap zdc) := ho.kept (zaa hb) (by cases v.ownBlock <;> simp)
 obtain ⟨g, cap, W4, hr, how, hgr, hgg, _⟩ := run_append_lies (P := Tryz.prog) (W2.alloc (.cells #[u.1, u.2.1, u.2.2.1, u.2.2.2.1, u.2.2.2.2] 53)) 24 24 B 53 i0 (.agg #[.int .i64 0, .string ⟨#[]⟩, .slice none 0 0, .slice none 0 0, .slice none 0 0]) 5 96 Tryz.underlying24 hi hz0 hz1 hz2 rfl (by decide) v ts.length _
  (ho2.alloc _) ⟨W2.heap.size, 0, none⟩ 1 1 (zdc u) rfl
  (fun j x hx => by rw [addr_add, World.cell?_alloc_at _ _ _ _ rfl, ← hx]; simp [zdc]) h1 (by omega) (by unfold maxLen; omega) (by omega) (by simp; omega) (W2.heap.size + 1) (by simp)
 have hown : ∀ k, v.ownBlock = some k → B ≤ k ∧ k < wr.heap.size := ho.lt
 have hs4 : W2.heap.size + 1 ≤ W4.heap.size := by have := hgr.size; simpa using this
 have hkeep : ∀ j, j < W2.heap.size → some j ≠ v.ownBlock → W4.heap[j]? = W2.heap[j]? := fun j hj hne => (hgr.block j (by simp; omega) hne).trans (((Below.refl W2.heap.size W2).alloc (Nat.le_refl _) _).block j hj)
 have hnew : (some g = v.ownBlock) ∨ ∀ g2, some g = some g2 → W2.heap.size ≤ g2 := by
  rcases hgg with e | e
  ·exact .inl e.symm
  ·exact .inr fun g2 e2 => by cases e2; omega
 refine ⟨g, cap, W4, hr, ⟨es ++ [u], by simp [hel], by simpa [zdc, List.flatMap_append] using how, fun j x s hj hs => ?_⟩, by omega, hkeep, ?_⟩
 ·show Fr B (some g) W4 _
  rcases Nat.lt_or_ge j ts.length with hlt | hge
  ·rw [List.getElem?_append_left (by omega)] at hj
   rw [List.getElem?_append_left hlt] at hs
   refine (he j x s hj hs).step (by omega) (fun i hi hne => ?_) ?_
   ·rw [hkeep i (by omega) hne]
    exact hb.block i hi
   ·rcases hnew with e | e
    ·exact .inl e
    ·exact .inr fun g2 e2 => Nat.le_trans hs2 (e g2 e2)
  ·rw [List.getElem?_append_right (by omega)] at hj
   rw [List.getElem?_append_right hge] at hs
   have ej : j - ts.length = 0 := by
    rcases Nat.eq_zero_or_pos (j - ts.length) with e | e
    ·exact e
    ·rw [List.getElem?_eq_none (by simp; omega)] at hs; cases hs
   rw [ej] at hs
   rw [hel, ej] at hj
   simp at hj hs
   subst hj hs
   intro W' hW'
   refine hu W' fun i h2 h3 => ?_
   have hne : some i ≠ v.ownBlock := fun e => by have := (hown i e.symm).2; omega
   rw [hW' i (by omega) (by omega) ?_, hkeep i h3 hne]
   rcases hnew with e | e
   ·rw [e]; exact hne
   ·intro e2
    have := e i e2.symm
    omega
 ·refine ((hb.mono hB).alloc (by omega) _).grown hgr (by simp; omega) fun k ek => (hown k ek).1
theorem zkn {W : World} {pn : Option Addr} {ns : List Bs} {cn : Nat} (h : SRow W (.slice pn ns.length cn) ns) (hl : ns.length ≤ 1000000) :
  ∃ (p : Option Addr) (c : Nat) (W' : World), (Builtin.append_ #[25, 25] 25 #[.slice none 0 0, .slice pn ns.length cn]).run Tryz.prog W = .ok (.slice p ns.length c) W' ∧ Below W.heap.size W W' ∧
   ∀ W2 : World, (∀ j, W.heap.size ≤ j → j < W'.heap.size → W2.heap[j]? = W'.heap[j]?) → SRow W2 (.slice p ns.length c) ns := by
 obtain ⟨i0, hi, hz0, hz1, hz2⟩ := info_parts zig
 obtain ⟨p, c, e, hp⟩ := h
 injection e with e1 e2 e3
 subst e1 e3
 rcases Nat.eq_zero_or_pos ns.length with h0 | h0
 ·obtain rfl := List.eq_nil_of_length_eq_zero h0
  have hs : Src Tryz.prog i0.size 25 (.slice pn 0 cn) 0 [] W := by
   cases pn with
   | none => exact Src.ofNil W Tryz.underlying25 cn
   | some a => exact Src.ofSlice W Tryz.underlying25 a 0 cn [] (by simp) (fun j u hu => by simp at hu) (fun u hu => by simp at hu)
  exact ⟨none, 0, W, run_append_nothing W 25 25 25 9 i0 Tryz.underlying25 hi none 0 0 (Nat.le_refl _) _ hs, Below.refl _ _, fun W2 _ => ⟨none, 0, rfl, fun j t ht => by simp at ht⟩⟩
 ·obtain ⟨g, o, rfl, _⟩ := hp 0 ns[0] (by simp)
  have hnews : ∀ j v, (zcg ns)[j]? = some v → W.cell? ((⟨g, o, none⟩ : Addr).add j) = some v := fun j v hv => by
   rw [zcg, List.getElem?_map] at hv
   rcases hj : ns[j]? with _ | s
   ·rw [hj] at hv; cases hv
   ·rw [hj] at hv
    obtain ⟨g', o', e, a⟩ := hp j s hj
    obtain ⟨rfl, rfl⟩ : g = g' ∧ o = o' := by simpa using e
    rw [Go.WideShapes.add_plain, a]
    simpa using hv
  have hr := run_append_nil (P := Tryz.prog) W 25 25 9 i0 (.string ⟨#[]⟩) Tryz.underlying25 hi hz0 ⟨g, o, none⟩ ns.length cn (zcg ns) (by rw [hz1]; simp [zcg]) hnews h0 (by omega) (by rw [hz2]; omega)
  refine ⟨_, _, _, hr, (zhd (Below.refl W.heap.size W)).alloc (Nat.le_refl _) _, fun W2 hW2 => ⟨_, _, rfl, fun j t ht => ⟨W.heap.size, 0, rfl, ?_⟩⟩⟩
  have hj : j < ns.length := (List.getElem?_eq_some_iff.1 ht).1
  have hb : W2.heap[W.heap.size]? = some (.cells ((zcg ns).toArray ++ Builtin.zeroCells (Value.string ⟨#[]⟩).cells (grownCap W ns.length 0 9 - ns.length)) 9) := by
   rw [hW2 _ (Nat.le_refl _) (by simp)]
   have := zaj W.drew (.cells ((zcg ns).toArray ++ Builtin.zeroCells (Value.string ⟨#[]⟩).cells (grownCap W ns.length 0 9 - ns.length)) 9)
   simpa using this
  rw [Lib.cell_of_heap hb, Nat.zero_add, Array.getElem?_append_left (by simp [zcg]; omega)]
  simp [zcg, ht]
theorem info_bool : (Tryz.prog.info? 4).map (fun i => (i.zero, i.size, i.bytes)) = some (some (.bool false), 1, 1) := by kernel_rfl
def boolV (bs : List Bool) : List Value := bs.map .bool
theorem append_bools {W : World} {pn : Option Addr} {ns : List Bool} {cn : Nat} (h : BRow W (.slice pn ns.length cn) ns) (hl : ns.length ≤ 1000000) :
  ∃ (p : Option Addr) (c : Nat) (W' : World), (Builtin.append_ #[51, 51] 51 #[.slice none 0 0, .slice pn ns.length cn]).run Tryz.prog W = .ok (.slice p ns.length c) W' ∧ Below W.heap.size W W' ∧
   ∀ W2 : World, (∀ j, W.heap.size ≤ j → j < W'.heap.size → W2.heap[j]? = W'.heap[j]?) → BRow W2 (.slice p ns.length c) ns := by
 obtain ⟨i0, hi, hz0, hz1, hz2⟩ := info_parts info_bool
 obtain ⟨p, c, e, hp⟩ := h
 injection e with e1 e2 e3
 subst e1 e3
 rcases Nat.eq_zero_or_pos ns.length with h0 | h0
 ·obtain rfl := List.eq_nil_of_length_eq_zero h0
  have hs : Src Tryz.prog i0.size 51 (.slice pn 0 cn) 0 [] W := by
   cases pn with
   | none => exact Src.ofNil W Tryz.underlying51 cn
   | some a => exact Src.ofSlice W Tryz.underlying51 a 0 cn [] (by simp) (fun j u hu => by simp at hu) (fun u hu => by simp at hu)
  exact ⟨none, 0, W, run_append_nothing W 51 51 51 4 i0 Tryz.underlying51 hi none 0 0 (Nat.le_refl _) _ hs, Below.refl _ _, fun W2 _ => ⟨none, 0, rfl, fun j t ht => by simp at ht⟩⟩
 ·obtain ⟨g, o, rfl, _⟩ := hp 0 ns[0] (by simp)
  have hnews : ∀ j v, (boolV ns)[j]? = some v → W.cell? ((⟨g, o, none⟩ : Addr).add j) = some v := fun j v hv => by
   rw [boolV, List.getElem?_map] at hv
   rcases hj : ns[j]? with _ | s
   ·rw [hj] at hv; cases hv
   ·rw [hj] at hv
    obtain ⟨g', o', e, a⟩ := hp j s hj
    obtain ⟨rfl, rfl⟩ : g = g' ∧ o = o' := by simpa using e
    rw [Go.WideShapes.add_plain, a]
    simpa using hv
  have hr := run_append_nil (P := Tryz.prog) W 51 51 4 i0 (.bool false) Tryz.underlying51 hi hz0 ⟨g, o, none⟩ ns.length cn (boolV ns) (by rw [hz1]; simp [boolV]) hnews h0 (by omega) (by rw [hz2]; omega)
  refine ⟨_, _, _, hr, (zhd (Below.refl W.heap.size W)).alloc (Nat.le_refl _) _, fun W2 hW2 => ⟨_, _, rfl, fun j t ht => ⟨W.heap.size, 0, rfl, ?_⟩⟩⟩
  have hj : j < ns.length := (List.getElem?_eq_some_iff.1 ht).1
  have hb : W2.heap[W.heap.size]? = some (.cells ((boolV ns).toArray ++ Builtin.zeroCells (Value.bool false).cells (grownCap W ns.length 0 4 - ns.length)) 4) := by
   rw [hW2 _ (Nat.le_refl _) (by simp)]
   have := zaj W.drew (.cells ((boolV ns).toArray ++ Builtin.zeroCells (Value.bool false).cells (grownCap W ns.length 0 4 - ns.length)) 4)
   simpa using this
  rw [Lib.cell_of_heap hb, Nat.zero_add, Array.getElem?_append_left (by simp [boolV]; omega)]
  simp [boolV, ht]
theorem za4 {P : Program} {ops : Array Oper} {rest : List Oper} {o : Oper} {a : Act} {w : World} {Q : Exit → Act → World → Prop} (hg : o.guard = none) (s x : Operand) (t : TypeId) (ho : o.op = .call { callee := .builtin .append, args := #[s, x], argTypes := #[t, t] })
  {v u v' : Value} {w' : World} (hs : a.eval s = v) (hx : a.eval x = u) (hr : (Builtin.append_ #[t, t] o.type #[v, u]).run P w = .ok v' w') (h : wpList P ops Q rest (a.put o.dst v') w') : wpList P ops Q (o :: rest) a w := by
 refine wpList_plain hg fun K hK => ?_
 unfold Oper.wp
 simp [execOp, ho, resolve, invoke, builtin, hs, hx, hr, Result.andThen]
 exact hK _ _ h
def OwnAt (d : Nat) : Prop := ∀ (t : Ty d) (v : Value) (w : World), TyValD w d v t → szD d t ≤ 1000000 →
 Calls Tryz.prog 41 #[v] w fun e w' => (∃ u : V5, e = .returned (val5 u) ∧ (∀ x ∈ zdc u, x.oneCell' = true) ∧ ∀ W' : World, (∀ j, w.heap.size ≤ j → j < w'.heap.size → W'.heap[j]? = w'.heap[j]?) → TyValD W' d (val5 u) t) ∧ Below w.heap.size w w'
abbrev ownO (K : Int) (S : ByteArray) (vn ve vp : Value) : Obj := .cells #[.int .i64 K, .string S, vn, ve, vp] 53
theorem zik {W : World} {b i : Nat} {c : Array Value} {t : TypeId} {fz : Nat × Nat} (h : W.heap[b]? = some (.cells c t fz)) (v : Value) : (W.setCell ⟨b, i, none⟩ v).heap[b]? = some (.cells (c.setIfInBounds i v) t fz) := by
 obtain ⟨hlt, hk⟩ := Array.getElem?_eq_some_iff.1 h
 show (W.heap.modify b _)[b]? = _
 rw [Array.getElem?_eq_getElem (by rw [Array.size_modify]; exact hlt), Array.getElem_modify_self, hk]
 rfl
theorem OTys.move {B : Nat} {W W' : World} {v : Value} {d : Nat} {ts : List (Ty d)} (h : OTys B W v d ts) (hs : W'.heap.size = W.heap.size) (hk : ∀ j, B ≤ j → W'.heap[j]? = W.heap[j]?) : OTys B W' v d ts := by
 obtain ⟨es, hl, ho, he⟩ := h
 refine ⟨es, hl, ⟨ho.1, ?_⟩, fun j u t h1 h2 W2 hW2 => he j u t h1 h2 W2 fun i h3 h4 h5 => ?_⟩
 ·rcases ho.2 with h0 | ⟨g, cap, cur, e, hb, hg, r⟩
  ·exact .inl h0
  ·exact .inr ⟨g, cap, cur, e, hb, (hk g hb).trans hg, r⟩
 ·rw [hW2 i h3 (by omega) h5, hk i h3]
theorem zdi (w : World) (O : Obj) (j : Nat) (h : j < w.heap.size) : (w.alloc O).heap[j]? = w.heap[j]? := ((Below.refl w.heap.size w).alloc (Nat.le_refl _) O).block j h
theorem za8 {W : World} {b i j : Nat} {v : Value} (h : j ≠ b) : (W.setCell ⟨b, i, none⟩ v).heap[j]? = W.heap[j]? := Below.heap_setCell _ _ _ _ h
theorem zlt : ∀ {d : Nat} {W : World} {u : V5} {t : Ty d}, TyValD W d (val5 u) t → ∃ (K2 : Int) (S2 : ByteArray) (rn re rp : Option Addr) (m1 y1 m2 y2 m3 y3 : Nat), u = (.int .i64 K2, .string S2, .slice rn m1 y1, .slice re m2 y2, .slice rp m3 y3)
 | 0, _, _, _, h => h.elim
 | d + 1, W, (u0, u1, u2, u3, u4), t, h => by
  obtain ⟨pn, pe, pp, cn, ce, cp, e, _⟩ := h
  have e' : #[u0, u1, u2, u3, u4] = #[Value.int .i64 t.1, .string ⟨t.2.1.toArray⟩, .slice pn t.2.2.1.length cn, .slice pe t.2.2.2.1.length ce, .slice pp t.2.2.2.2.length cp] := by
   unfold val5 at e
   injection e
  have e2 : [u0, u1, u2, u3, u4] = [Value.int .i64 t.1, .string ⟨t.2.1.toArray⟩, .slice pn t.2.2.1.length cn, .slice pe t.2.2.2.1.length ce, .slice pp t.2.2.2.2.length cp] := congrArg Array.toList e'
  simp only [List.cons.injEq, and_true] at e2
  obtain ⟨rfl, rfl, rfl, rfl, rfl⟩ := e2
  exact ⟨_, _, _, _, _, _, _, _, _, _, _, rfl⟩
theorem zli (args : Array Value) (w : World) : Sem.run Tryz.prog (callFunc 41 args) w = .ok (.enter 41 args) w := by kernel_rfl
theorem zdd {α : Type} {l : List α} {k : Nat} (h : k < l.length) : l.take (k + 1) = l.take k ++ [l[k]] := List.take_succ_eq_append_getElem h
theorem own_step (d : Nat) (IH : OwnAt d) : OwnAt (d + 1) := fun t v w hv hz => by
 obtain ⟨pn, pe, pp, cn, ce, cp, rfl, r1, r2, r3⟩ := hv
 obtain ⟨K, S, ns, es, ts⟩ := t
 have hz' : 1 + S.length + ns.length + es.length + zgs ns + szL d ts ≤ 1000000 := hz
 dsimp only at *
 have hlt := Nat.le_trans (zcr _ ts) (zd5 _ ts)
 obtain ⟨tO, htO⟩ : ∃ O : Obj, O = ownO K ⟨S.toArray⟩ (.slice pn ns.length cn) (.slice pe es.length ce) (.slice pp ts.length cp) := ⟨_, rfl⟩
 obtain ⟨zO, hzO⟩ : ∃ O : Obj, O = ownO 0 ⟨#[]⟩ (.slice none 0 0) (.slice none 0 0) (.slice none 0 0) := ⟨_, rfl⟩
 obtain ⟨xO, hxO⟩ : ∃ O : Obj, O = ownO K ⟨S.toArray⟩ (.slice none 0 0) (.slice none 0 0) (.slice none 0 0) := ⟨_, rfl⟩
 obtain ⟨W3, hW3⟩ : ∃ W3 : World, W3 = ((w.alloc tO).alloc zO).alloc xO := ⟨_, rfl⟩
 have hs3 : W3.heap.size = w.heap.size + 3 := by rw [hW3]; simp
 have b3 : Below w.heap.size w W3 := by rw [hW3]; exact (((Below.refl _ _).alloc (Nat.le_refl _) _).alloc (by simp) _).alloc (by simp; omega) _
 have t3 : W3.heap[w.heap.size]? = some tO := by
  rw [hW3, zdi _ _ _ (by simp; omega), zdi _ _ _ (by simp)]; exact zaj w tO
 have z3 : W3.heap[w.heap.size + 1]? = some zO := by
  rw [hW3, zdi _ _ _ (by simp)]; simpa using zaj (w.alloc tO) zO
 have x3 : W3.heap[w.heap.size + 2]? = some xO := by
  rw [hW3]; simpa using zaj ((w.alloc tO).alloc zO) xO
 -- the names
 obtain ⟨p2, c2, Wn, E1, bn, FN⟩ := zkn (r1.below b3) (by omega)
 have sn := bn.size
 have xn : Wn.heap[w.heap.size + 2]? = some xO := (bn.block _ (by omega)).trans x3
 obtain ⟨W4, hW4⟩ : ∃ W4 : World, W4 = Wn.setCell ⟨w.heap.size + 2, 2, none⟩ (.slice p2 ns.length c2) := ⟨_, rfl⟩
 have s4 : W4.heap.size = Wn.heap.size := by rw [hW4]; simp
 have x4 : W4.heap[w.heap.size + 2]? = some (ownO K ⟨S.toArray⟩ (.slice p2 ns.length c2) (.slice none 0 0) (.slice none 0 0)) := by rw [hW4, zik (by rw [xn, hxO])]; rfl
 have k4 : ∀ j, j ≠ w.heap.size + 2 → W4.heap[j]? = Wn.heap[j]? := fun j hj => by rw [hW4]; exact za8 hj
 have b4 : Below w.heap.size w W4 := by rw [hW4]; exact (b3.trans (bn.mono b3.size)).setCell (p := ⟨w.heap.size + 2, 2, none⟩) (by show w.heap.size ≤ w.heap.size + 2; omega) _
 -- the truths
 obtain ⟨p3, c3, Wb, E2, bb, FB⟩ := append_bools (r2.below b4) (by omega)
 have sb := bb.size
 have xb : Wb.heap[w.heap.size + 2]? = some (ownO K ⟨S.toArray⟩ (.slice p2 ns.length c2) (.slice none 0 0) (.slice none 0 0)) := (bb.block _ (by omega)).trans x4
 obtain ⟨W5, hW5⟩ : ∃ W5 : World, W5 = Wb.setCell ⟨w.heap.size + 2, 3, none⟩ (.slice p3 es.length c3) := ⟨_, rfl⟩
 have s5 : W5.heap.size = Wb.heap.size := by rw [hW5]; simp
 have x5 : W5.heap[w.heap.size + 2]? = some (ownO K ⟨S.toArray⟩ (.slice p2 ns.length c2) (.slice p3 es.length c3) (.slice none 0 0)) := by rw [hW5, zik xb]; rfl
 have k5 : ∀ j, j ≠ w.heap.size + 2 → W5.heap[j]? = Wb.heap[j]? := fun j hj => by rw [hW5]; exact za8 hj
 have b5 : Below w.heap.size w W5 := by rw [hW5]; exact (b4.trans (bb.mono b4.size)).setCell (p := ⟨w.heap.size + 2, 3, none⟩) (by show w.heap.size ≤ w.heap.size + 2; omega) _
 have t5 : W5.heap[w.heap.size]? = some tO := by rw [k5 _ (by omega), bb.block _ (by omega), k4 _ (by omega), bn.block _ (by omega), t3]
 have z5 : W5.heap[w.heap.size + 1]? = some zO := by rw [k5 _ (by omega), bb.block _ (by omega), k4 _ (by omega), bn.block _ (by omega), z3]
 have FN5 : Hid (∀ W' : World, (∀ j, w.heap.size + 3 ≤ j → j < W5.heap.size → W'.heap[j]? = W5.heap[j]?) → SRow W' (.slice p2 ns.length c2) ns) := fun W' h => FN W' fun j h1 h2 => by
  rw [h j (by omega) (by omega), k5 _ (by omega), bb.block _ (by omega), k4 _ (by omega)]
 have FB5 : Hid (∀ W' : World, (∀ j, w.heap.size + 3 ≤ j → j < W5.heap.size → W'.heap[j]? = W5.heap[j]?) → BRow W' (.slice p3 es.length c3) es) := fun W' h => FB W' fun j h1 h2 => by
  rw [h j (by omega) (by omega), k5 _ (by omega)]
 have hn5 : w.heap.size + 3 ≤ W5.heap.size := by omega
 -- the cells that the walk reads and writes
 have n2 : Wn.cell? ⟨w.heap.size + 1 + 1, 2, none⟩ = some (.slice none 0 0) := by rw [Lib.cell_of_heap (by rw [xn, hxO])]; rfl
 have f2 : Wn.frozen? ⟨w.heap.size + 1 + 1, 2, none⟩ = false := Lib.frozen_of_heap (by rw [xn, hxO]) 2
 have m3 : (Wn.setCell ⟨w.heap.size + 1 + 1, 2, none⟩ (.slice p2 ns.length c2)).cell? ⟨w.heap.size + 1 + 1, 3, none⟩ = some (.slice none 0 0) := by rw [← hW4, Lib.cell_of_heap x4]; rfl
 have m4 : (Wn.setCell ⟨w.heap.size + 1 + 1, 2, none⟩ (.slice p2 ns.length c2)).cell? ⟨w.heap.size, 3, none⟩ = some (.slice pe es.length ce) := by rw [← hW4, Lib.cell_of_heap (show W4.heap[w.heap.size]? = _ by rw [k4 _ (by omega), bn.block _ (by omega), t3, htO])]; rfl
 have q3 : Wb.cell? ⟨w.heap.size + 1 + 1, 3, none⟩ = some (.slice none 0 0) := by rw [Lib.cell_of_heap xb]; rfl
 have f3 : Wb.frozen? ⟨w.heap.size + 1 + 1, 3, none⟩ = false := Lib.frozen_of_heap xb 3
 have E1' : (Builtin.append_ #[25, 25] 25 #[.slice none 0 0, .slice pn ns.length cn]).run Tryz.prog (((w.alloc (ownO K ⟨S.toArray⟩ (.slice pn ns.length cn) (.slice pe es.length ce) (.slice pp ts.length cp))).alloc (ownO 0 ⟨#[]⟩ (.slice none 0 0) (.slice none 0 0) (.slice none 0 0))).alloc (ownO K ⟨S.toArray⟩ (.slice none 0 0) (.slice none 0 0) (.slice none 0 0))) = .ok (.slice p2 ns.length c2) Wn := by
  rw [← E1, hW3, htO, hzO, hxO]
 have E2' : (Builtin.append_ #[51, 51] 51 #[.slice none 0 0, .slice pe es.length ce]).run Tryz.prog (Wn.setCell ⟨w.heap.size + 1 + 1, 2, none⟩ (.slice p2 ns.length c2)) = .ok (.slice p3 es.length c3) Wb := by rw [← E2, hW4]
 have HE1 := za3 E1'
 have HE2 := za3 E2'
 have HX := za3 (show W5.heap[w.heap.size]? = some tO ∧ W5.heap[w.heap.size + 1]? = some zO ∧ W5.heap[w.heap.size + 2]? = some (ownO K ⟨S.toArray⟩ (.slice p2 ns.length c2) (.slice p3 es.length c3) (.slice none 0 0)) ∧ Below w.heap.size w W5 ∧ w.heap.size + 3 ≤ W5.heap.size ∧ W5 = Wb.setCell ⟨w.heap.size + 1 + 1, 3, none⟩ (.slice p3 es.length c3) from ⟨t5, z5, x5, b5, hn5, hW5⟩)
 have HP : Hid (∀ k (hk : k < ts.length), ∃ u, zhu w pp k u ∧ ∀ W, Below w.heap.size w W → Calls Tryz.prog 41 #[u] W fun e w' => (∃ u : V5, e = .returned (val5 u) ∧ (∀ x ∈ zdc u, x.oneCell' = true) ∧ ∀ W' : World, (∀ j, W.heap.size ≤ j → j < w'.heap.size → W'.heap[j]? = w'.heap[j]?) → TyValD W' d (val5 u) ts[k]) ∧ Below W.heap.size W w') := fun k hk => by
  obtain ⟨u, hu, hv⟩ := r3.at k hk
  have hk2 := ze6 (List.getElem_mem hk)
  exact ⟨u, hu, fun W hW => IH _ u W (TyValD.below hW hv) (by omega)⟩
 have HTO := za3 htO
 have HZO := za3 hzO
 clear IH r1 r2 r3 E1 E2 E1' E2' FN FB k4 k5 b3 b4 b5 t3 z3 x3 t5 z5 x5 x4 xn xb bn bb hW3 hW4 hW5 s4 s5 sn sb hs3 hn5 htO hzO hxO hz
 go_enter Tryz.func41, Tryz.ntmps41
 go_wp2_with (first
  | (at_builtin; refine za4 rfl (.tmp 11) (.tmp 13) 25 rfl rfl rfl (za0 HE1) ?_; clear HE1)
  | (at_builtin; refine za4 rfl (.tmp 17) (.tmp 19) 51 rfl rfl rfl (za0 HE2) ?_; clear HE2))
 have HX' := za0 HX
 rw [← HX'.2.2.2.2.2]
 clear HX' m3 m4 n2 f2 q3 f3
 go_loopw [4] (fun i wr => ∃ (k : Nat) (vp : Value), i = .int .i64 k ∧ k ≤ ts.length ∧ Hid (OTys W5.heap.size wr vp d (ts.take k)) ∧ Hid (wr.heap[w.heap.size + 2]? = some (ownO K ⟨S.toArray⟩ (.slice p2 ns.length c2) (.slice p3 es.length c3) vp)) ∧ Hid (Below w.heap.size w wr) ∧ Hid (W5.heap.size ≤ wr.heap.size ∧ ∀ j, j < W5.heap.size → j ≠ w.heap.size + 2 → wr.heap[j]? = W5.heap[j]?)) (fun i _ => ts.length - (intOf i).toNat)
 case atStart => exact ⟨0, .slice none 0 0, rfl, by omega, OTys.nil _ _ _, (za0 HX).2.2.1, (za0 HX).2.2.2.1, ⟨Nat.le_refl _, fun _ _ _ => rfl⟩⟩
 case round =>
  obtain ⟨k, vp, rfl, hk, HO, HXr, HBr, HKr⟩ := hrel
  have hn5 := (za0 HX).2.2.2.2.1
  obtain ⟨q, cq, rfl⟩ : ∃ q cq, vp = .slice q k cq := by
   obtain ⟨es', _, ho, _⟩ := za0 HO
   obtain ⟨q, cq, e, _⟩ := zaq ho
   exact ⟨q, cq, by rw [e, List.length_take, Nat.min_eq_left hk]⟩
  have hT : wr.heap[w.heap.size]? = some tO := ((za0 HKr).2 _ (by omega) (by omega)).trans (za0 HX).1
  rw [za0 HTO] at hT
  have c4 : wr.cell? ⟨w.heap.size, 4, none⟩ = some (.slice pp ts.length cp) := by rw [Lib.cell_of_heap hT]; rfl
  have x4 : wr.cell? ⟨w.heap.size + 1 + 1, 4, none⟩ = some (.slice q k cq) := by rw [Lib.cell_of_heap (za0 HXr)]; rfl
  have hHT := za3 hT
  clear hT
  by_cases hlt : k < ts.length
  ·obtain ⟨u, ⟨g, o, K', S', qn, qe, q3, nn, d1, ne, d2, n3, d3, rfl, rfl, a0, a1, a2, a3, a4⟩, HI⟩ := za0 HP k hlt
   have hb := za0 HBr
   have b0 := (hb.cell (p := ⟨g, _, none⟩) (za2 a0)).trans a0
   have b1 := (hb.cell (p := ⟨g, _, none⟩) (za2 a1)).trans a1
   have b2 := (hb.cell (p := ⟨g, _, none⟩) (za2 a2)).trans a2
   have b3 := (hb.cell (p := ⟨g, _, none⟩) (za2 a3)).trans a3
   have b4 := (hb.cell (p := ⟨g, _, none⟩) (za2 a4)).trans a4
   have hlt' : (k : Int) < (ts.length : Int) := by omega
   have CL : Hid (Calls Tryz.prog 41 #[.agg #[.int .i64 K', .string S', .slice qn nn d1, .slice qe ne d2, .slice q3 n3 d3]] wr.drew fun e w1 => ∃ (K2 : Int) (S2 : ByteArray) (rn re rp : Option Addr) (m1 y1 m2 y2 m3 y3 : Nat), e = .returned (.agg #[.int .i64 K2, .string S2, .slice rn m1 y1, .slice re m2 y2, .slice rp m3 y3]) ∧
     w1.cell? ⟨w.heap.size + 1 + 1, 4, none⟩ = some (.slice q k cq) ∧ w1.cell? ⟨w.heap.size, 4, none⟩ = some (.slice (some ⟨g, o, none⟩) ts.length cp) ∧ (w1.alloc (ownO K2 S2 (.slice rn m1 y1) (.slice re m2 y2) (.slice rp m3 y3))).cell? ⟨w.heap.size + 1 + 1, 4, none⟩ = some (.slice q k cq) ∧
     ∃ (g' cap : Nat) (W4 : World), (Builtin.append_ #[24, 24] 24 #[.slice q k cq, .slice (some ⟨w1.heap.size, 0, none⟩) 1 1]).run Tryz.prog (w1.alloc (ownO K2 S2 (.slice rn m1 y1) (.slice re m2 y2) (.slice rp m3 y3))) = .ok (.slice (some ⟨g', 0, none⟩) (k + 1) cap) W4 ∧
      W4.cell? ⟨w.heap.size + 1 + 1, 4, none⟩ = some (.slice q k cq) ∧ W4.frozen? ⟨w.heap.size + 1 + 1, 4, none⟩ = false ∧
      OTys W5.heap.size (W4.setCell ⟨w.heap.size + 1 + 1, 4, none⟩ (.slice (some ⟨g', 0, none⟩) (k + 1) cap)) (.slice (some ⟨g', 0, none⟩) (k + 1) cap) d (ts.take (k + 1)) ∧ (W4.setCell ⟨w.heap.size + 1 + 1, 4, none⟩ (.slice (some ⟨g', 0, none⟩) (k + 1) cap)).heap[w.heap.size + 2]? = some (ownO K ⟨S.toArray⟩ (.slice p2 ns.length c2) (.slice p3 es.length c3) (.slice (some ⟨g', 0, none⟩) (k + 1) cap)) ∧
      Below w.heap.size w (W4.setCell ⟨w.heap.size + 1 + 1, 4, none⟩ (.slice (some ⟨g', 0, none⟩) (k + 1) cap)) ∧ W5.heap.size ≤ (W4.setCell ⟨w.heap.size + 1 + 1, 4, none⟩ (.slice (some ⟨g', 0, none⟩) (k + 1) cap)).heap.size ∧ ∀ j, j < W5.heap.size → j ≠ w.heap.size + 2 → (W4.setCell ⟨w.heap.size + 1 + 1, 4, none⟩ (.slice (some ⟨g', 0, none⟩) (k + 1) cap)).heap[j]? = W5.heap[j]?) := by
    refine (HI wr.drew (zad hb)).mono ?_
    rintro e w1 ⟨⟨u, rfl, hone, hfr⟩, hb1⟩
    have hb1' : Below wr.heap.size wr w1 := zch hb1
    have hkr := za0 HKr
    have hs1 := hb1'.size
    obtain ⟨K2, S2, rn, re, rp, m1, y1, m2, y2, m3, y3, rfl⟩ := zlt (hfr w1 fun _ _ _ => rfl)
    have hx1 : w1.heap[w.heap.size + 2]? = some (ownO K ⟨S.toArray⟩ (.slice p2 ns.length c2) (.slice p3 es.length c3) (.slice q k cq)) := (hb1'.block _ (by omega)).trans (za0 HXr)
    have ht1 : w1.heap[w.heap.size]? = some (ownO K ⟨S.toArray⟩ (.slice pn ns.length cn) (.slice pe es.length ce) (.slice (some ⟨g, o, none⟩) ts.length cp)) := (hb1'.block _ (by omega)).trans (za0 hHT)
    obtain ⟨g', cap, W4, E, hot, hs4, hk4, hb4⟩ := ziz (za0 HO) hkr.1 hb1' hfr hone (by rw [List.length_take]; omega)
    rw [List.length_take, Nat.min_eq_left hk] at E hot
    have hown : ∀ j, (Value.slice q k cq).ownBlock = some j → W5.heap.size ≤ j := fun j ej => by
     obtain ⟨es', _, ho, _⟩ := za0 HO
     exact (ho.lt j ej).1
    have hx4 : W4.heap[w.heap.size + 2]? = some (ownO K ⟨S.toArray⟩ (.slice p2 ns.length c2) (.slice p3 es.length c3) (.slice q k cq)) := (hk4 _ (by omega) (fun ej => by have := hown _ ej.symm; omega)).trans hx1
    refine ⟨K2, S2, rn, re, rp, m1, y1, m2, y2, m3, y3, rfl, by rw [Lib.cell_of_heap hx1]; rfl, by rw [Lib.cell_of_heap ht1]; rfl, ?_, g', cap, W4, E, by rw [Lib.cell_of_heap hx4]; rfl, Lib.frozen_of_heap hx4 4, ?_, ?_, ?_, ?_, ?_⟩
    ·rw [Lib.cell_of_heap ((zdi w1 _ _ (by omega)).trans hx1)]; rfl
    ·rw [zdd hlt]
     refine hot.move (by simp) fun j hj => za8 (by omega)
    ·rw [zik hx4]; rfl
    ·exact (hb.trans (hb4.mono (by omega))).setCell (p := ⟨w.heap.size + 1 + 1, 4, none⟩) (by show w.heap.size ≤ w.heap.size + 1 + 1; omega) _
    ·simp; omega
    ·intro j hj hne
     rw [za8 hne, hk4 j (by omega) (fun ej => by have := hown _ ej.symm; omega), hb1'.block j (by omega), hkr.2 j hj hne]
   clear HI a0 a1 a2 a3 a4 hb HO HXr HBr HKr HP hHT
   go_wp2_with fail
   go_region_law (first
    | (refine zde (u := .agg #[.int .i64 K', .string S', .slice qn nn d1, .slice qe ne d2, .slice q3 n3 d3]) rfl 41 (.tmp 35) 53 rfl (by simp [Act.eval]) zli ?_; refine (za0 CL).mono ?_; rintro e w1 ⟨K2, S2, rn, re, rp, m1, y1, m2, y2, m3, y3, rfl, e1, e2, e3, g', cap, W4, E, e4, e5, e6, e7, e8, e9, e10⟩; refine ⟨_, rfl, ?_⟩)
    | refine zc6 rfl (.tmp 30) (.tmp 37) 24 rfl (by simp [Act.eval]) (by simp [Act.eval]) E ?_)
   all_goals
    go_wp2_with fail
    go_roundw
    case rel => exact ⟨k + 1, _, by go_num, by omega, e6, e7, e8, ⟨e9, e10⟩⟩
    case measure => simp [intOf]; omega
  ·obtain rfl : k = ts.length := by omega
   have hkr := za0 HKr
   have hZ : wr.heap[w.heap.size + 1]? = some zO := (hkr.2 _ (by omega) (by omega)).trans (za0 HX).2.1
   rw [za0 HZO] at hZ
   obtain ⟨x0, x1, x2, x3, x5⟩ : wr.cell? ⟨w.heap.size + 1 + 1, 0, none⟩ = some (.int .i64 K) ∧ wr.cell? ⟨w.heap.size + 1 + 1, 1, none⟩ = some (.string ⟨S.toArray⟩) ∧ wr.cell? ⟨w.heap.size + 1 + 1, 2, none⟩ = some (.slice p2 ns.length c2) ∧ wr.cell? ⟨w.heap.size + 1 + 1, 3, none⟩ = some (.slice p3 es.length c3) ∧ wr.cell? ⟨w.heap.size + 1 + 1, 4, none⟩ = some (.slice q ts.length cq) :=
    ⟨by rw [Lib.cell_of_heap (za0 HXr)]; rfl, by rw [Lib.cell_of_heap (za0 HXr)]; rfl, by rw [Lib.cell_of_heap (za0 HXr)]; rfl, by rw [Lib.cell_of_heap (za0 HXr)]; rfl, x4⟩
   obtain ⟨z0', z1', z2', z3', z4'⟩ : wr.cell? ⟨w.heap.size + 1, 0, none⟩ = some (.int .i64 0) ∧ wr.cell? ⟨w.heap.size + 1, 1, none⟩ = some (.string ⟨#[]⟩) ∧ wr.cell? ⟨w.heap.size + 1, 2, none⟩ = some (.slice none 0 0) ∧ wr.cell? ⟨w.heap.size + 1, 3, none⟩ = some (.slice none 0 0) ∧ wr.cell? ⟨w.heap.size + 1, 4, none⟩ = some (.slice none 0 0) :=
    ⟨by rw [Lib.cell_of_heap hZ]; rfl, by rw [Lib.cell_of_heap hZ]; rfl, by rw [Lib.cell_of_heap hZ]; rfl, by rw [Lib.cell_of_heap hZ]; rfl, by rw [Lib.cell_of_heap hZ]; rfl⟩
   have fz0 := Lib.frozen_of_heap hZ 0
   have fz1 := Lib.frozen_of_heap hZ 1
   have fz2 := Lib.frozen_of_heap hZ 2
   have fz3 := Lib.frozen_of_heap hZ 3
   have fz4 := Lib.frozen_of_heap hZ 4
   have HZ := za3 hZ
   have HKK := za3 hkr
   clear hZ hkr HP HKr hHT
   go_wp2_with fail
   obtain ⟨Wf, hWf⟩ : ∃ Wf : World, Wf = ((((wr.setCell ⟨w.heap.size + 1, 0, none⟩ (.int .i64 K)).setCell ⟨w.heap.size + 1, 1, none⟩ (.string ⟨S.toArray⟩)).setCell ⟨w.heap.size + 1, 2, none⟩ (.slice p2 ns.length c2)).setCell ⟨w.heap.size + 1, 3, none⟩ (.slice p3 es.length c3)).setCell ⟨w.heap.size + 1, 4, none⟩ (.slice q ts.length cq) := ⟨_, rfl⟩
   rw [← hWf]
   have hF : Wf.heap[w.heap.size + 1]? = some (ownO K ⟨S.toArray⟩ (.slice p2 ns.length c2) (.slice p3 es.length c3) (.slice q ts.length cq)) := by
    rw [hWf]
    exact zik (i := 4) (zik (i := 3) (zik (i := 2) (zik (i := 1) (zik (i := 0) (za0 HZ) (.int .i64 K)) (.string ⟨S.toArray⟩)) (.slice p2 ns.length c2)) (.slice p3 es.length c3)) (.slice q ts.length cq)
   have kF : ∀ j, j ≠ w.heap.size + 1 → Wf.heap[j]? = wr.heap[j]? := fun j hj => by rw [hWf, za8 hj, za8 hj, za8 hj, za8 hj, za8 hj]
   have sF : Wf.heap.size = wr.heap.size := by rw [hWf]; simp
   have bF : Below w.heap.size w Wf := by
    rw [hWf]
    have hle : w.heap.size ≤ w.heap.size + 1 := by omega
    exact (((((za0 HBr).setCell (p := ⟨w.heap.size + 1, 0, none⟩) hle _).setCell (p := ⟨w.heap.size + 1, 1, none⟩) hle _).setCell (p := ⟨w.heap.size + 1, 2, none⟩) hle _).setCell (p := ⟨w.heap.size + 1, 3, none⟩) hle _).setCell (p := ⟨w.heap.size + 1, 4, none⟩) hle _
   have f0 : Wf.cell? ⟨w.heap.size + 1, 0, none⟩ = some (.int .i64 K) := by rw [Lib.cell_of_heap hF]; rfl
   have f1 : Wf.cell? ⟨w.heap.size + 1, 1, none⟩ = some (.string ⟨S.toArray⟩) := by rw [Lib.cell_of_heap hF]; rfl
   have f2 : Wf.cell? ⟨w.heap.size + 1, 2, none⟩ = some (.slice p2 ns.length c2) := by rw [Lib.cell_of_heap hF]; rfl
   have f3 : Wf.cell? ⟨w.heap.size + 1, 3, none⟩ = some (.slice p3 es.length c3) := by rw [Lib.cell_of_heap hF]; rfl
   have f4 : Wf.cell? ⟨w.heap.size + 1, 4, none⟩ = some (.slice q ts.length cq) := by rw [Lib.cell_of_heap hF]; rfl
   have hO := za0 HO
   rw [List.take_length] at hO
   have hkk := za0 HKK
   refine bodyPost_ret (v := .agg #[.int .i64 K, .string ⟨S.toArray⟩, .slice p2 ns.length c2, .slice p3 es.length c3, .slice q ts.length cq]) (by simp [results, Tryz.results41, go_sem, f0, f1, f2, f3, f4]) rfl ⟨⟨(.int .i64 K, .string ⟨S.toArray⟩, .slice p2 ns.length c2, .slice p3 es.length c3, .slice q ts.length cq), rfl, ?_, fun W' hW' => ⟨p2, p3, q, c2, c3, cq, rfl, za0 FN5 W' fun j h1 h2 => ?_, za0 FB5 W' fun j h1 h2 => ?_, hO.rows W' fun j h1 h2 => ?_⟩⟩, bF⟩
   ·intro x hx
    simp [zdc] at hx
    rcases hx with rfl | rfl | rfl | rfl | rfl <;> rfl
   ·rw [hW' j (by omega) (by omega), kF j (by omega), hkk.2 j h2 (by omega)]
   ·rw [hW' j (by omega) (by omega), kF j (by omega), hkk.2 j h2 (by omega)]
   ·rw [hW' j (by omega) (by omega), kF j (by omega)]
theorem own_any : ∀ d, OwnAt d
 | 0 => fun t => nomatch t
 | d + 1 => own_step d (own_any d)
def Left (base : Nat) (v : Value) (w : World) (u : Value) (ns : List Bs) (w' : World) : Prop :=
 w'.ownsRow base 9 1 u ns.length (zcg ns) ∧ Below base w w' ∧ (∀ j, j < w.heap.size → some j ≠ v.ownBlock → w'.heap[j]? = w.heap[j]?) ∧ (u.ownBlock = v.ownBlock ∨ ∀ g, u.ownBlock = some g → w.heap.size ≤ g)
theorem Left.append {base : Nat} {v : Value} {ns : List Bs} {s : Bs} {w : World} (h : w.ownsRow base 9 1 v ns.length (zcg ns)) (hl : base ≤ w.heap.size) (hn : ns.length < 1000000) :
  ∃ (g cap : Nat) (W4 : World), (Builtin.append_ #[25, 25] 25 #[v, .slice (some ⟨w.heap.size, 0, none⟩) 1 1]).run Tryz.prog (w.alloc (.cells #[.string ⟨s.toArray⟩] 9)) = .ok (.slice (some ⟨g, 0, none⟩) (ns.length + 1) cap) W4 ∧ Left base v w (.slice (some ⟨g, 0, none⟩) (ns.length + 1) cap) (ns ++ [s]) W4 := by
 obtain ⟨i0, hi, hz0, hz1, hz2⟩ := info_parts zig
 obtain ⟨g, cap, W4, hr, how, hgr, hgg, _⟩ := run_append_lies (P := Tryz.prog) (w.alloc (.cells #[.string ⟨s.toArray⟩] 9)) 25 25 base 9 i0 (.string ⟨#[]⟩) 1 16 Tryz.underlying25 hi hz0 hz1 hz2 rfl (by decide) v ns.length _
  (h.alloc _) ⟨w.heap.size, 0, none⟩ 1 1 [.string ⟨s.toArray⟩] rfl
  (fun j x hx => by
   match j, hx with
   | 0, hx => rw [addr_add, World.cell?_alloc_at _ _ _ _ rfl, ← hx]; rfl
   | j + 1, hx => simp at hx)
  (by intro u hu; simp at hu; subst hu; rfl) (by omega) (by unfold maxLen; omega) (by omega) (by simp; omega) (w.heap.size + 1) (by simp)
 refine ⟨g, cap, W4, hr, by simpa [zcg] using how, ((Below.refl _ _).alloc hl _).grown hgr (by simp; omega) (fun k ek => (h.lt k ek).1), fun j hj hne => (hgr.block j (by simp; omega) hne).trans (((Below.refl w.heap.size w).alloc (Nat.le_refl _) _).block j hj), ?_⟩
 rcases hgg with e | e
 ·exact .inl e.symm
 ·refine .inr fun g2 e2 => ?_
  have : g = g2 := by simpa [Value.ownBlock] using e2
  omega
theorem zjx {d : Nat} (ts : List (Ty d)) (k : Nat) : szL d (ts.take k) ≤ szL d ts := by
 have : szL d ts = szL d (ts.take k) + szL d (ts.drop k) := by unfold szL; rw [← List.sum_append, ← List.map_append, List.take_append_drop]
 omega
end Go.Proofs.YtmpbbmfbgcpplaaGreatDoor
