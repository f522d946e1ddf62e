import Derived.Test.YtmpbbmfbgcpplaaGreatDoorQXOwn
import Derived.Test.YtmpbbmfbgcpplaaGreatDoorQSizeG
import Derived.Test.YtmpbbmfbgcpplaaGreatDoorQStG
import Derived.Test.YtmpbbmfbgcpplaaGreatDoorQChainG
import Derived.Test.YtmpbbmfbgcpplaaGreatDoorQListG
import Derived.Deep.DeepCutAuto
import Derived.Deep.CutBlock
import Derived.Deep.LoopGhost
set_option maxHeartbeats 4000000
set_option maxRecDepth 100000
namespace Go.Proofs.YtmpbbmfbgcpplaaGreatDoor
open Go Go.RowKit Lx
def StValD (W : World) (D d : Nat) : (m : Nat) → Value → St D d m → Prop
 | 0, _, _ => False
 | m + 1, v, s => StVal W D d m v s
def OSts (B : Nat) (W : World) (v : Value) (D d m : Nat) (ts : List (St D d m)) : Prop :=
 ∃ es : List V7, es.length = ts.length ∧ W.ownsRow B 105 7 v ts.length (es.flatMap zbd) ∧ ∀ (j : Nat) (u : V7) (t : St D d m), es[j]? = some u → ts[j]? = some t → Fr B v.ownBlock W (fun W' => StValD W' D d m (val7 u) t)
theorem OSts.nil (B : Nat) (W : World) (D d m : Nat) : OSts B W (.slice none 0 0) D d m [] := ⟨[], rfl, World.ownsRow_nil _ _ _ _, fun j u t h => by simp at h⟩
theorem OSts.rows {B : Nat} {W : World} {v : Value} {D d : Nat} : ∀ {m : Nat} {ts : List (St D d m)}, OSts B W v D d m ts → ∀ W' : World, (∀ j, B ≤ j → j < W.heap.size → W'.heap[j]? = W.heap[j]?) → StRow W' D d m v ts
 | 0, ts, h, W', _ => by
  obtain ⟨es, _, ho, _⟩ := h
  obtain ⟨p, c, rfl, _⟩ := zaq ho
  match ts with
  | [] => exact ⟨p, c, rfl⟩
  | t :: _ => exact nomatch t
 | m + 1, ts, ⟨es, hl, ho, he⟩, W', hW' => by
  obtain ⟨p, c, rfl, hc⟩ := zaq ho
  refine ⟨p, c, rfl, fun j t ht => ?_⟩
  have hj : j < ts.length := (List.getElem?_eq_some_iff.1 ht).1
  have hu : es[j]? = some es[j] := by simp
  have hv := he j _ t hu ht W' fun i h1 h2 _ => hW' i h1 h2
  obtain ⟨pt, px, pb, pe, ct, cx, cb, ce, e, r1, r2, r3, r4⟩ := hv
  obtain ⟨q0, q1, q2, q3, q4, q5, q6⟩ := zje e
  rcases ho.2 with ⟨_, h0⟩ | ⟨g, cap, cur, e3, hb, hg, _⟩
  ·omega
  ·injection e3 with e4 _ _
   subst e4
   have hlt := (Array.getElem?_eq_some_iff.1 hg).1
   have hcell : ∀ i x, (zbd es[j])[i]? = some x → W'.cell? ⟨g, 0 + j * 7 + i, none⟩ = some x := fun i x hx => by
    rw [zhl (hW' g hb hlt), Nat.zero_add]
    have := ho.cells (g := g) rfl _ _ (zgk es j i _ x hu hx)
    rwa [addr_add] at this
   exact ⟨g, 0, _, _, _, _, rfl, (by have := hcell 0 _ rfl; rw [q0] at this; simpa using this), (by have := hcell 1 _ rfl; rw [q1] at this; exact this), (by have := hcell 2 _ rfl; rw [q2] at this; exact this), (by have := hcell 3 _ rfl; rw [q3] at this; exact this), (by have := hcell 4 _ rfl; rw [q4] at this; exact this), (by have := hcell 5 _ rfl; rw [q5] at this; exact this), (by have := hcell 6 _ rfl; rw [q6] at this; exact this), r1, r2, r3, r4⟩
theorem info_st : (Tryz.prog.info? 105).map (fun i => (i.zero, i.size, i.bytes)) = some (some (.agg #[.int .i64 0, .int .i64 0, .string ⟨#[]⟩, .slice none 0 0, .slice none 0 0, .slice none 0 0, .slice none 0 0]), 7, 128) := by kernel_rfl
theorem append_sts {B D d m : Nat} {wr W2 : World} {v : Value} {ts : List (St D d m)} {t : St D d m} {u : V7} (h : OSts B wr v D d m ts) (hB : B ≤ wr.heap.size) (hb : Below wr.heap.size wr W2) (hu : ∀ W' : World, (∀ j, wr.heap.size ≤ j → j < W2.heap.size → W'.heap[j]? = W2.heap[j]?) → StValD W' D d m (val7 u) t) (h1 : ∀ x ∈ zbd u, x.oneCell' = true) (hl : ts.length ≤ 1000000) :
  ∃ (g cap : Nat) (W4 : World), (Builtin.append_ #[40, 40] 40 #[v, .slice (some ⟨W2.heap.size, 0, none⟩) 1 1]).run Tryz.prog (W2.alloc (.cells #[u.1, u.2.1, u.2.2.1, u.2.2.2.1, u.2.2.2.2.1, u.2.2.2.2.2.1, u.2.2.2.2.2.2] 105)) = .ok (.slice (some ⟨g, 0, none⟩) (ts.length + 1) cap) W4 ∧
   OSts B W4 (.slice (some ⟨g, 0, none⟩) (ts.length + 1) cap) D d m (ts ++ [t]) ∧ W2.heap.size ≤ W4.heap.size ∧ (∀ j, j < W2.heap.size → some j ≠ v.ownBlock → W4.heap[j]? = W2.heap[j]?) ∧ Below B wr W4 := by
 obtain ⟨es, hel, ho, he⟩ := h
 obtain ⟨i0, hi, hz0, hz1, hz2⟩ := info_parts info_st
 have hs2 := hb.size
 have ho2 : W2.ownsRow B 105 7 v ts.length (es.flatMap zbd) := ho.kept (zaa hb) (by cases v.ownBlock <;> simp)
 obtain ⟨g, cap, W4, hr, how, hgr, hgg, _⟩ := run_append_lies (P := Tryz.prog) (W2.alloc (.cells #[u.1, u.2.1, u.2.2.1, u.2.2.2.1, u.2.2.2.2.1, u.2.2.2.2.2.1, u.2.2.2.2.2.2] 105)) 40 40 B 105 i0 (.agg #[.int .i64 0, .int .i64 0, .string ⟨#[]⟩, .slice none 0 0, .slice none 0 0, .slice none 0 0, .slice none 0 0]) 7 128 Tryz.underlying40 hi hz0 hz1 hz2 rfl (by decide) v ts.length _
  (ho2.alloc _) ⟨W2.heap.size, 0, none⟩ 1 1 (zbd u) rfl
  (fun j x hx => by rw [addr_add, World.cell?_alloc_at _ _ _ _ rfl, ← hx]; simp [zbd]) h1 (by omega) (by unfold maxLen; omega) (by omega) (by simp; omega) (W2.heap.size + 1) (by simp)
 have hown : ∀ k, v.ownBlock = some k → B ≤ k ∧ k < wr.heap.size := ho.lt
 have hs4 : W2.heap.size + 1 ≤ W4.heap.size := by have := hgr.size; simpa using this
 have hkeep : ∀ j, j < W2.heap.size → some j ≠ v.ownBlock → W4.heap[j]? = W2.heap[j]? := fun j hj hne => (hgr.block j (by simp; omega) hne).trans (((Below.refl W2.heap.size W2).alloc (Nat.le_refl _) _).block j hj)
 have hnew : (some g = v.ownBlock) ∨ ∀ g2, some g = some g2 → W2.heap.size ≤ g2 := by
  rcases hgg with e | e
  ·exact .inl e.symm
  ·exact .inr fun g2 e2 => by cases e2; omega
 refine ⟨g, cap, W4, hr, ⟨es ++ [u], by simp [hel], by simpa [zbd, List.flatMap_append] using how, fun j x s hj hs => ?_⟩, by omega, hkeep, ?_⟩
 ·show Fr B (some g) W4 _
  rcases Nat.lt_or_ge j ts.length with hlt | hge
  ·rw [List.getElem?_append_left (by omega)] at hj
   rw [List.getElem?_append_left hlt] at hs
   refine (he j x s hj hs).step (by omega) (fun i hi hne => ?_) ?_
   ·rw [hkeep i (by omega) hne]
    exact hb.block i hi
   ·rcases hnew with e | e
    ·exact .inl e
    ·exact .inr fun g2 e2 => Nat.le_trans hs2 (e g2 e2)
  ·rw [List.getElem?_append_right (by omega)] at hj
   rw [List.getElem?_append_right hge] at hs
   have ej : j - ts.length = 0 := by
    rcases Nat.eq_zero_or_pos (j - ts.length) with e | e
    ·exact e
    ·rw [List.getElem?_eq_none (by simp; omega)] at hs; cases hs
   rw [ej] at hs
   rw [hel, ej] at hj
   simp at hj hs
   subst hj hs
   intro W' hW'
   refine hu W' fun i h2 h3 => ?_
   have hne : some i ≠ v.ownBlock := fun e => by have := (hown i e.symm).2; omega
   rw [hW' i (by omega) (by omega) ?_, hkeep i h3 hne]
   rcases hnew with e | e
   ·rw [e]; exact hne
   ·intro e2
    have := e i e2.symm
    omega
 ·refine ((hb.mono hB).alloc (by omega) _).grown hgr (by simp; omega) fun k ek => (hown k ek).1
def SI (wr : World) (F : World → Prop) (n bx : Nat) (xO : Obj) (W : World) : Prop :=
 W.heap[bx]? = some xO ∧ (wr.heap.size ≤ bx ∧ bx < n ∧ n ≤ W.heap.size) ∧ Below wr.heap.size wr W ∧ ∀ W' : World, (∀ j, wr.heap.size ≤ j → j < n → j ≠ bx → W'.heap[j]? = W.heap[j]?) → F W'
theorem SI.step {wr W W2 : World} {xO xO2 : Obj} {F : World → Prop} {n bx : Nat} (h : SI wr F n bx xO W) (hx : W2.heap[bx]? = some xO2) (hb : Below wr.heap.size wr W2) (hs : n ≤ W2.heap.size) (hk : ∀ j, j < n → j ≠ bx → W2.heap[j]? = W.heap[j]?) : SI wr F n bx xO2 W2 := by
 obtain ⟨h1, ⟨h2, h3, h4⟩, h5, h6⟩ := h
 exact ⟨hx, ⟨h2, h3, hs⟩, hb, fun W' hW' => h6 W' fun j j1 j2 j3 => (hW' j j1 j2 j3).trans (hk j j2 j3)⟩
theorem SI.more {wr W : World} {xO : Obj} {F G : World → Prop} {n bx : Nat} (h : SI wr F n bx xO W) (hg : ∀ W' : World, (∀ j, n ≤ j → j < W.heap.size → W'.heap[j]? = W.heap[j]?) → G W') : SI wr (fun W' => F W' ∧ G W') W.heap.size bx xO W := by
 obtain ⟨h1, ⟨h2, h3, h4⟩, h5, h6⟩ := h
 exact ⟨h1, ⟨h2, by omega, Nat.le_refl _⟩, h5, fun W' hW' => ⟨h6 W' fun j j1 j2 j3 => hW' j j1 (by omega) j3, hg W' fun j j1 j2 => hW' j (by omega) j2 (by omega)⟩⟩
abbrev ownS (A K : Int) (S : ByteArray) (vt vx vb ve : Value) : Obj := .cells #[.int .i64 A, .int .i64 K, .string S, vt, vx, vb, ve] 105
section
variable {w0 wr W : World} {F : World → Prop} {n bx : Nat} {A K : Int} {S : ByteArray} {q : Option Addr} {k cq : Nat} {vt vx vb ve v : Value}
theorem sround_ty {D : Nat} {ts : List (Ty D)} (hX : SI wr F n bx (ownS A K S (.slice q k cq) vx vb ve) W) (HO : OTys n W (.slice q k cq) D (ts.take k)) (hlt : k < ts.length) (hl : ts.length ≤ 1000000)
  (hC : ∀ W, Below wr.heap.size wr W → Calls Tryz.prog 41 #[v] W fun e w' => (∃ u : V5, e = .returned (val5 u) ∧ (∀ x ∈ zdc u, x.oneCell' = true) ∧ ∀ W' : World, (∀ j, W.heap.size ≤ j → j < w'.heap.size → W'.heap[j]? = w'.heap[j]?) → TyValD W' D (val5 u) ts[k]) ∧ Below W.heap.size W w') :
  Calls Tryz.prog 41 #[v] W.drew fun e w1 => ∃ (K2 : Int) (S2 : ByteArray) (rn re rp : Option Addr) (m1 y1 m2 y2 m3 y3 : Nat), e = .returned (.agg #[.int .i64 K2, .string S2, .slice rn m1 y1, .slice re m2 y2, .slice rp m3 y3]) ∧
   w1.cell? ⟨bx, 3, none⟩ = some (.slice q k cq) ∧ (w1.alloc (ownO K2 S2 (.slice rn m1 y1) (.slice re m2 y2) (.slice rp m3 y3))).cell? ⟨bx, 3, none⟩ = some (.slice q k cq) ∧
   ∃ (g' cap : Nat) (W4 : World), (Builtin.append_ #[24, 24] 24 #[.slice q k cq, .slice (some ⟨w1.heap.size, 0, none⟩) 1 1]).run Tryz.prog (w1.alloc (ownO K2 S2 (.slice rn m1 y1) (.slice re m2 y2) (.slice rp m3 y3))) = .ok (.slice (some ⟨g', 0, none⟩) (k + 1) cap) W4 ∧
    W4.cell? ⟨bx, 3, none⟩ = some (.slice q k cq) ∧ W4.frozen? ⟨bx, 3, none⟩ = false ∧
    OTys n (W4.setCell ⟨bx, 3, none⟩ (.slice (some ⟨g', 0, none⟩) (k + 1) cap)) (.slice (some ⟨g', 0, none⟩) (k + 1) cap) D (ts.take (k + 1)) ∧
    SI wr F n bx (ownS A K S (.slice (some ⟨g', 0, none⟩) (k + 1) cap) vx vb ve) (W4.setCell ⟨bx, 3, none⟩ (.slice (some ⟨g', 0, none⟩) (k + 1) cap)) := by
 obtain ⟨i3, ⟨i1, i2, i6⟩, hb, i7⟩ := id hX
 refine (hC W.drew (zad hb)).mono ?_
 rintro e w1 ⟨⟨u, rfl, hone, hfr⟩, hb1⟩
 have hb1' : Below W.heap.size W w1 := zch hb1
 have hs1 := hb1'.size
 obtain ⟨K2, S2, rn, re, rp, m1, y1, m2, y2, m3, y3, rfl⟩ := zlt (hfr w1 fun _ _ _ => rfl)
 have hx1 := (hb1'.block _ (by omega)).trans i3
 obtain ⟨g', cap, W4, E, hot, hs4, hk4, hb4⟩ := ziz HO i6 hb1' hfr hone (by rw [List.length_take]; omega)
 rw [List.length_take, Nat.min_eq_left (by omega)] at E hot
 have hown : ∀ j, (Value.slice q k cq).ownBlock = some j → n ≤ j := fun j ej => by
  obtain ⟨es', _, ho, _⟩ := HO
  exact (ho.lt j ej).1
 have hx4 : W4.heap[bx]? = some (ownS A K S (.slice q k cq) vx vb ve) := (hk4 _ (by omega) (fun ej => by have := hown _ ej.symm; omega)).trans hx1
 refine ⟨K2, S2, rn, re, rp, m1, y1, m2, y2, m3, y3, rfl, by rw [Lib.cell_of_heap hx1]; rfl, ?_, g', cap, W4, E, by rw [Lib.cell_of_heap hx4]; rfl, Lib.frozen_of_heap hx4 3, ?_, hX.step ?_ ?_ ?_ ?_⟩
 ·rw [Lib.cell_of_heap ((zdi w1 _ _ (by omega)).trans hx1)]; rfl
 ·rw [zdd hlt]
  exact hot.move (by simp) fun j hj => za8 (by omega)
 ·rw [zik hx4]; rfl
 ·exact (hb.trans (hb4.mono (by omega))).setCell (p := ⟨bx, 3, none⟩) (by show wr.heap.size ≤ bx; omega) _
 ·simp; omega
 ·intro j hj hne
  rw [za8 hne, hk4 j (by omega) (fun ej => by have := hown _ ej.symm; omega), hb1'.block j (by omega)]
theorem sround_ex {D d : Nat} {xs : List (Ex D d)} (hX : SI wr F n bx (ownS A K S vt (.slice q k cq) vb ve) W) (HO : OExs n W (.slice q k cq) D d (xs.take k)) (hlt : k < xs.length) (hl : xs.length ≤ 1000000)
  (hC : ∀ W, Below wr.heap.size wr W → Calls Tryz.prog 8 #[v] W fun e w' => (∃ u : V7, e = .returned (val7 u) ∧ (∀ x ∈ zbd u, x.oneCell' = true) ∧ ∀ W' : World, (∀ j, W.heap.size ≤ j → j < w'.heap.size → W'.heap[j]? = w'.heap[j]?) → EV W' D d (val7 u) xs[k]) ∧ Below W.heap.size W w') :
  Calls Tryz.prog 8 #[v] W.drew fun e w1 => ∃ (A2 K2 N2 : Int) (S2 : ByteArray) (rn re rp : Option Addr) (m1 y1 m2 y2 m3 y3 : Nat), e = .returned (.agg #[.int .i64 A2, .int .i64 K2, .int .i64 N2, .string S2, .slice rn m1 y1, .slice re m2 y2, .slice rp m3 y3]) ∧
   w1.cell? ⟨bx, 4, none⟩ = some (.slice q k cq) ∧ (w1.alloc (zii A2 K2 N2 S2 (.slice rn m1 y1) (.slice re m2 y2) (.slice rp m3 y3))).cell? ⟨bx, 4, none⟩ = some (.slice q k cq) ∧
   ∃ (g' cap : Nat) (W4 : World), (Builtin.append_ #[26, 26] 26 #[.slice q k cq, .slice (some ⟨w1.heap.size, 0, none⟩) 1 1]).run Tryz.prog (w1.alloc (zii A2 K2 N2 S2 (.slice rn m1 y1) (.slice re m2 y2) (.slice rp m3 y3))) = .ok (.slice (some ⟨g', 0, none⟩) (k + 1) cap) W4 ∧
    W4.cell? ⟨bx, 4, none⟩ = some (.slice q k cq) ∧ W4.frozen? ⟨bx, 4, none⟩ = false ∧
    OExs n (W4.setCell ⟨bx, 4, none⟩ (.slice (some ⟨g', 0, none⟩) (k + 1) cap)) (.slice (some ⟨g', 0, none⟩) (k + 1) cap) D d (xs.take (k + 1)) ∧
    SI wr F n bx (ownS A K S vt (.slice (some ⟨g', 0, none⟩) (k + 1) cap) vb ve) (W4.setCell ⟨bx, 4, none⟩ (.slice (some ⟨g', 0, none⟩) (k + 1) cap)) := by
 obtain ⟨i3, ⟨i1, i2, i6⟩, hb, i7⟩ := id hX
 refine (hC W.drew (zad hb)).mono ?_
 rintro e w1 ⟨⟨u, rfl, hone, hfr⟩, hb1⟩
 have hb1' : Below W.heap.size W w1 := zch hb1
 have hs1 := hb1'.size
 obtain ⟨A2, K2, N2, S2, rn, re, rp, m1, y1, m2, y2, m3, y3, rfl⟩ := val7_form (hfr w1 fun _ _ _ => rfl).1
 have hx1 := (hb1'.block _ (by omega)).trans i3
 obtain ⟨g', cap, W4, E, hot, hs4, hk4, hb4⟩ := append_exs HO i6 hb1' hfr hone (by rw [List.length_take]; omega)
 rw [List.length_take, Nat.min_eq_left (by omega)] at E hot
 have hown : ∀ j, (Value.slice q k cq).ownBlock = some j → n ≤ j := fun j ej => by
  obtain ⟨es', _, ho, _⟩ := HO
  exact (ho.lt j ej).1
 have hx4 : W4.heap[bx]? = some (ownS A K S vt (.slice q k cq) vb ve) := (hk4 _ (by omega) (fun ej => by have := hown _ ej.symm; omega)).trans hx1
 refine ⟨A2, K2, N2, S2, rn, re, rp, m1, y1, m2, y2, m3, y3, rfl, by rw [Lib.cell_of_heap hx1]; rfl, ?_, g', cap, W4, E, by rw [Lib.cell_of_heap hx4]; rfl, Lib.frozen_of_heap hx4 4, ?_, hX.step ?_ ?_ ?_ ?_⟩
 ·rw [Lib.cell_of_heap ((zdi w1 _ _ (by omega)).trans hx1)]; rfl
 ·rw [zdd hlt]
  exact hot.move (by simp) fun j hj => za8 (by omega)
 ·rw [zik hx4]; rfl
 ·exact (hb.trans (hb4.mono (by omega))).setCell (p := ⟨bx, 4, none⟩) (by show wr.heap.size ≤ bx; omega) _
 ·simp; omega
 ·intro j hj hne
  rw [za8 hne, hk4 j (by omega) (fun ej => by have := hown _ ej.symm; omega), hb1'.block j (by omega)]
end
theorem owns_enter (args : Array Value) (w : World) : Sem.run Tryz.prog (callFunc 15 args) w = .ok (.enter 15 args) w := by kernel_rfl
def zg7 (p : Option Addr) (c : Nat) (D d m : Nat) (ss : List (St D d m)) (W : World) : Prop :=
 Calls Tryz.prog 15 #[.slice p ss.length c] W fun e w' => (∃ (q : Option Addr) (cq : Nat), e = .returned (.slice q ss.length cq) ∧ ∀ W' : World, (∀ j, W.heap.size ≤ j → j < w'.heap.size → W'.heap[j]? = w'.heap[j]?) → StRow W' D d m (.slice q ss.length cq) ss) ∧ Below W.heap.size W w'
def OwnSAt (D d m : Nat) : Prop := ∀ (ss : List (St D d m)) (p : Option Addr) (c : Nat) (w : World), StRow w D d m (.slice p ss.length c) ss → zey D d m ss ≤ 1000000 → zg7 p c D d m ss w
open Go Go.RowKit
def destZ (ops : Array Oper) (n z : Nat) : Bool := (List.range ops.size).all fun i => decide (i = z) || (match (ops[i]?).bind (·.dst) with | none => false | some d => decide (d < n) && (List.range ops.size).all fun j => decide (j = i) || (ops[j]?).bind (·.dst) != some d)
def lastB (ops : Array Oper) (z : Nat) : Bool := (List.range ops.size).all fun i => decide (i = z) || Region.waitsFor .any ops z i
theorem destZ_of {ops : Array Oper} {n i z : Nat} {o : Oper} (h : destZ ops n z = true) (hne : i ≠ z) (ho : ops[i]? = some o) : ∃ d, o.dst = some d ∧ d < n ∧ ∀ j o', ops[j]? = some o' → o'.dst = some d → j = i := by
 have hi : i < ops.size := (Array.getElem?_eq_some_iff.1 ho).1
 have h1 := List.all_eq_true.1 h i (List.mem_range.2 hi)
 rw [ho, decide_eq_false hne, Bool.false_or] at h1
 rcases hd : o.dst with _ | d
 ·simp [hd] at h1
 ·simp only [Option.bind_some, hd, Bool.and_eq_true, decide_eq_true_eq] at h1
  refine ⟨d, rfl, h1.1, fun j o' hj hd' => ?_⟩
  have h2 := List.all_eq_true.1 h1.2 j (List.mem_range.2 (Array.getElem?_eq_some_iff.1 hj).1)
  rw [hj] at h2
  simp [hd'] at h2
  exact h2
theorem region_last {P : Program} {id n z : Nat} {ops : Array Oper} {oz : Oper} {Q : Exit → Act → World → Prop} {a0 : Act} {w : World} (hm : P.follows .mixedOrders = true) (hd : destZ ops n z = true) (hk : backB ops = true) (hl : lastB ops z = true) (hoz : ops[z]? = some oz) (hdz : oz.dst = none) (hn : a0.tmps.size = n) (B : World → Prop) (V : Nat → Value → World → Prop) (X : (Nat → Option Value) → World → Prop) (hB : B w.drew) (hX : X (fun _ => none) w.drew)
  (each : EachOp (fun i o => i ≠ z → YGoal P ops Q a0 n B V X i o) ops.toList 0)
  (fin : ∀ (a : Act) (w : World) (f : Nat → Option Value), a.tmps.size = n → a.defers = a0.defers → (∀ t, noB ops t = true → a.tmps.getD t undef = a0.tmps.getD t undef) → B w → (∀ j d, (ops[j]?).bind (·.dst) = some d → f j = some (a.tmps.getD d undef)) → (∀ j v, f j = some v → V j v w) → X f w → Region.wanted oz (yielded ops a.tmps) = true ∧ oz.wp P a w (fun a' w' => a' = a ∧ Q .normal a w') Q) :
  (Code.region id ops true).wp P Q a0 w := by
 have hzl : z < ops.size := (Array.getElem?_eq_some_iff.1 hoz).1
 have hall : ∀ i, i < ops.size → i ≠ z → Region.waitsFor .any ops z i = true := fun i hi hne => by
  have := List.all_eq_true.1 hl i (List.mem_range.2 hi)
  rwa [decide_eq_false hne, Bool.false_or] at this
 refine wp_region_any hm (zi0 (fun listed a w => listed.size = ops.size ∧ ((listed.getD z false = false ∧ ∃ f, YInv ops a0 B V X listed a w f) ∨ ((∀ i, i < ops.size → listed.getD i false = true) ∧ Q .normal a w))) (fun _ _ _ h => h.1) ?_ ?_ ops.size (Array.replicate ops.size false) a0 _ ⟨by simp, .inl ⟨by simp [Array.getD], fun _ => none, by simp, rfl, rfl, fun _ _ => rfl, fun _ _ _ _ => rfl, hB, ?_, fun _ _ => rfl, (fun _ _ h => nomatch h), (fun _ _ _ h => absurd rfl h), hX⟩⟩ ?_)
 ·rintro listed a u i ⟨hsz, hinv⟩ hi
  have hi' := List.mem_filter.1 hi
  have hlt : i < ops.size := List.mem_range.1 hi'.1
  have ho : ops[i]? = some ops[i] := by simp [hlt]
  have hp := hi'.2
  rw [ho] at hp
  simp only [Bool.and_eq_true, Option.map_some, Option.getD_some] at hp
  have hil : i < listed.size := by rw [hsz]; exact hlt
  have hno : listed.getD i false = false := by
   have := hp.1
   simp only [Bool.not_eq_true'] at this
   simp only [Array.getD, hil, dite_true] at this ⊢
   exact this
  rcases hinv with ⟨hzn, f, h⟩ | ⟨hdone, _⟩
  rotate_left
  ·rw [hdone i hlt] at hno; cases hno
  have hw : ∀ j d', (ops[j]?).bind (·.dst) = some d' → Region.waitsFor .any ops i j = true → f j = some (a.tmps.getD d' undef) := fun j d' hj hwait => by
   obtain ⟨oi, hoi, e, he, hb, rfl⟩ := Region.waitsFor_spec hwait
   rw [ho] at hoi
   obtain rfl := Option.some.inj hoi
   have := Array.all_eq_true'.1 hp.2 e he
   rw [hb] at this
   exact h.yes _ d' hj (by simpa using this)
  by_cases hiz : i = z
  ·subst hiz
   obtain rfl : oz = ops[i] := (Option.some.inj (ho.symm.trans hoz)).symm
   have hlisted : ∀ j, j < ops.size → j ≠ i → listed.getD j false = true := fun j hj hne => by
    obtain ⟨oi, hoi, e, he, hb, rfl⟩ := Region.waitsFor_spec (hall j hj hne)
    rw [ho] at hoi
    obtain rfl := Option.some.inj hoi
    have := Array.all_eq_true'.1 hp.2 e he
    rw [hb] at this
    simpa using this
   obtain ⟨h1, h2⟩ := fin a u f (h.slots.trans hn) h.defers h.kept h.base (fun j d hj => by
    have hji : j ≠ i := fun e => by subst e; rw [ho] at hj; simp [hdz] at hj
    obtain ⟨o', ho', _⟩ := Option.bind_eq_some_iff.1 hj
    exact hw j d hj (hall j (Array.getElem?_eq_some_iff.1 ho').1 hji)) h.done h.more
   rw [wpOp, ho]
   simp only
   rw [if_pos h1]
   refine .inl (Oper.wp_mono ?_ h2)
   rintro a' w' ⟨rfl, hq⟩
   refine ⟨by simp [hsz], .inr ⟨fun j hj => ?_, hq⟩⟩
   by_cases hji : j = i
   ·subst hji; simp [Array.getD, hil]
   ·have he : (listed.setIfInBounds i true).getD j false = listed.getD j false := by
     simp only [Array.getD_eq_getD_getElem?]
     rw [Array.getElem?_setIfInBounds_ne (Ne.symm hji)]
    exact he.trans (hlisted j hj hji)
  obtain ⟨d, e1, e2, e3⟩ := destZ_of hd hiz ho
  have hg := each_of _ _ each i ops[i] (by simp [hlt])
  rw [Nat.zero_add] at hg
  obtain ⟨h1, h2⟩ := hg hiz a u f (h.slots.trans hn) h.defers h.kept h.late h.base h.done h.more (h.no i hno) h.down hw
  rw [wpOp, ho]
  simp only
  rw [if_pos h1]
  refine .inl (Oper.wp_mono ?_ h2)
  rintro a' w' ⟨v, rfl, hB', hv, hV', hX'⟩
  rw [e1]
  have hzz : (listed.setIfInBounds i true).getD z false = false := by
   have he : (listed.setIfInBounds i true).getD z false = listed.getD z false := by
    simp only [Array.getD_eq_getD_getElem?]
    rw [Array.getElem?_setIfInBounds_ne hiz]
   exact he.trans hzn
  refine ⟨by simp [hsz], .inl ⟨hzz, zbx f i v, by simp [h.size], by simp [Act.put, h.slots], by simp [Act.put, h.defers], fun t ht => ?_, fun t j hj hn => ?_, hB', fun j d' hj hl => ?_, fun j hl => ?_, fun j u hj => ?_, fun j m hwt hj => ?_, hX'⟩⟩
  ·rw [zdg (fun e => no_of ht i _ ho (by rw [e1, e])), h.kept t ht]
  ·have hji : j ≠ i := fun e => by rw [e, zat] at hn; cases hn
   rw [za9 _ _ hji] at hn
   obtain ⟨o', ho', hd'⟩ := Option.bind_eq_some_iff.1 hj
   have htd : t ≠ d := fun e => hji (e3 j o' ho' (e ▸ hd'))
   rw [zdg htd, h.late t j hj hn]
  ·by_cases hji : j = i
   ·subst hji
    rw [ho] at hj
    obtain rfl := Option.some.inj (e1.symm.trans hj)
    rw [zjh (by rw [h.slots, hn]; exact e2), zat]
   ·obtain ⟨o', ho', hd'⟩ := Option.bind_eq_some_iff.1 hj
    have hdd : d' ≠ d := fun e => hji (e3 j o' ho' (e ▸ hd'))
    rw [zdg hdd, za9 _ _ hji]
    refine h.yes j d' hj ?_
    rw [← hl]
    simp only [Array.getD_eq_getD_getElem?]
    rw [Array.getElem?_setIfInBounds_ne (Ne.symm hji)]
  ·by_cases hji : j = i
   ·subst hji
    simp [Array.getD, hil] at hl
   ·rw [za9 _ _ hji]
    refine h.no j ?_
    have he : (listed.setIfInBounds i true).getD j false = listed.getD j false := by
     simp only [Array.getD_eq_getD_getElem?]
     rw [Array.getElem?_setIfInBounds_ne (Ne.symm hji)]
    exact he.symm.trans hl
  ·by_cases hji : j = i
   ·subst hji
    rw [zat] at hj
    obtain rfl := Option.some.inj hj
    exact hv
   ·rw [za9 _ _ hji] at hj
    exact hV' j u hj
  ·by_cases hmi : m = i
   ·subst hmi
    rw [zat]; simp
   ·rw [za9 _ _ hmi]
    by_cases hji : j = i
    ·subst hji
     obtain ⟨oi, hoi, e, he, hb, rfl⟩ := Region.waitsFor_spec hwt
     have hlt2 : e.on < ops.size := Nat.lt_trans (back_of hk hoi he hb) hlt
     have hez : e.on ≠ z := fun ee => by
      rw [ho] at hoi
      obtain rfl := Option.some.inj hoi
      have := Array.all_eq_true'.1 hp.2 e he
      rw [hb, ee, hzn] at this
      simp at this
     obtain ⟨d2, k1, _, _⟩ := destZ_of hd hez (show ops[e.on]? = some ops[e.on] by simp [hlt2])
     rw [hw e.on d2 (by simp [hlt2, k1]) hwt]
     simp
    ·rw [za9 _ _ hji] at hj
     exact h.down j m hwt hj
 ·rintro listed a u ⟨hsz, hinv⟩ hr
  rcases hinv with ⟨hzn, _⟩ | ⟨_, hq⟩
  ·rw [all_done hk hsz hr z hzl] at hzn; cases hzn
  ·exact hq
 ·intro i d _ hl
  simp [Array.getD] at hl
 ·simp [zf1]
abbrev zS : Obj := ownS 0 0 ⟨#[]⟩ (.slice none 0 0) (.slice none 0 0) (.slice none 0 0) (.slice none 0 0)
def ZB (W : World) (g : Nat) : Prop := W.heap[g]? = some zS
theorem ZB.cells {W : World} {g : Nat} (h : ZB W g) : (W.cell? ⟨g, 0, none⟩ = some (.int .i64 0) ∧ W.cell? ⟨g, 1, none⟩ = some (.int .i64 0) ∧ W.cell? ⟨g, 2, none⟩ = some (.string ⟨#[]⟩) ∧ W.cell? ⟨g, 3, none⟩ = some (.slice none 0 0) ∧ W.cell? ⟨g, 4, none⟩ = some (.slice none 0 0) ∧ W.cell? ⟨g, 5, none⟩ = some (.slice none 0 0) ∧ W.cell? ⟨g, 6, none⟩ = some (.slice none 0 0)) ∧ ∀ i, W.frozen? ⟨g, i, none⟩ = false :=
 ⟨⟨by rw [Lib.cell_of_heap h]; rfl, by rw [Lib.cell_of_heap h]; rfl, by rw [Lib.cell_of_heap h]; rfl, by rw [Lib.cell_of_heap h]; rfl, by rw [Lib.cell_of_heap h]; rfl, by rw [Lib.cell_of_heap h]; rfl, by rw [Lib.cell_of_heap h]; rfl⟩, fun i => Lib.frozen_of_heap h i⟩
section
variable {o : Oper} {a : Act} {w : World} {K : Act → World → Prop} {Q : Exit → Act → World → Prop}
theorem zgo {x y : Operand} {g e : Nat} {n c k : Nat} (ho : o.op = .indexAddr 40 x y) (hx : a.eval x = .slice (some ⟨g, e, none⟩) n c) (hy : a.eval y = .int .i64 (k : Int)) (hk : (k : Int) < (n : Int)) (h : K (a.put o.dst (.pointer (some ⟨g, e + k * 7, none⟩))) w) : o.wp Tryz.prog a w K Q := by
 unfold Oper.wp; simp only [execOp, ho, hx, hy]; go_simp
 exact h
theorem zgm {x : Operand} {b e i : Nat} (hi : i < 7) (ho : o.op = .fieldAddr 105 x i) (hx : a.eval x = .pointer (some ⟨b, e, none⟩)) (h : K (a.put o.dst (.pointer (some ⟨b, e + i, none⟩))) w) : o.wp Tryz.prog a w K Q := by
 unfold Oper.wp
 match i, hi with
 | 0, _ => simp only [execOp, ho, hx]; go_simp; exact h
 | 1, _ => simp only [execOp, ho, hx]; go_simp; exact h
 | 2, _ => simp only [execOp, ho, hx]; go_simp; exact h
 | 3, _ => simp only [execOp, ho, hx]; go_simp; exact h
 | 4, _ => simp only [execOp, ho, hx]; go_simp; exact h
 | 5, _ => simp only [execOp, ho, hx]; go_simp; exact h
 | 6, _ => simp only [execOp, ho, hx]; go_simp; exact h
theorem op_loadN {x : Operand} {b i : Nat} {n : Int} (ho : o.op = .load 3 x) (hx : a.eval x = .pointer (some ⟨b, i, none⟩)) (h0 : w.cell? ⟨b, i, none⟩ = some (.int .i64 n)) (h : K (a.put o.dst (.int .i64 n)) w) : o.wp Tryz.prog a w K Q := by
 unfold Oper.wp; simp only [execOp, ho, hx]; go_simp
 exact h
theorem op_buildSt {x1 x2 x5 x6 : Operand} {kk : Int} {s : ByteArray} {pb pe : Option Addr} {nb cb ne ce : Nat} (ho : o.op = .build 105 #[(1, x1), (2, x2), (5, x5), (6, x6)]) (h1 : a.eval x1 = .int .i64 kk) (h2 : a.eval x2 = .string s) (h5 : a.eval x5 = .slice pb nb cb) (h6 : a.eval x6 = .slice pe ne ce)
  (h : K (a.put o.dst (.agg #[.int .i64 0, .int .i64 kk, .string s, .slice none 0 0, .slice none 0 0, .slice pb nb cb, .slice pe ne ce])) w) : o.wp Tryz.prog a w K Q := by
 unfold Oper.wp; simp only [execOp, ho, List.map_toArray, List.map_cons, List.map_nil, h1, h2, h5, h6]; go_simp
 exact h
theorem op_allocSt (ho : o.op = .alloc 105) (h : K (a.put o.dst (.pointer (some ⟨w.heap.size, 0, none⟩))) (w.alloc zS)) : o.wp Tryz.prog a w K Q := by
 unfold Oper.wp; simp only [execOp, ho]; go_simp
 exact h
theorem op_storeSt {x y : Operand} {b : Nat} {kk : Int} {s : ByteArray} {pb pe : Option Addr} {nb cb ne ce : Nat} (ho : o.op = .store 105 x y) (hd : o.dst = none) (hx : a.eval x = .pointer (some ⟨b, 0, none⟩)) (hy : a.eval y = .agg #[.int .i64 0, .int .i64 kk, .string s, .slice none 0 0, .slice none 0 0, .slice pb nb cb, .slice pe ne ce]) (hz : ZB w b)
  (h : K a (((((((w.setCell ⟨b, 0, none⟩ (.int .i64 0)).setCell ⟨b, 1, none⟩ (.int .i64 kk)).setCell ⟨b, 2, none⟩ (.string s)).setCell ⟨b, 3, none⟩ (.slice none 0 0)).setCell ⟨b, 4, none⟩ (.slice none 0 0)).setCell ⟨b, 5, none⟩ (.slice pb nb cb)).setCell ⟨b, 6, none⟩ (.slice pe ne ce))) : o.wp Tryz.prog a w K Q := by
 obtain ⟨⟨z0, z1, z2, z3, z4, z5, z6⟩, zf⟩ := hz.cells
 have f0 := zf 0
 have f1 := zf 1
 have f2 := zf 2
 have f3 := zf 3
 have f4 := zf 4
 have f5 := zf 5
 have f6 := zf 6
 unfold Oper.wp; simp only [execOp, ho, hx, hy]; go_simp
 exact h
end
theorem stored {W : World} {b : Nat} {v0 v1 v2 v3 v4 v5 v6 : Value} (h : ZB W b) :
  let Wf := ((((((W.setCell ⟨b, 0, none⟩ v0).setCell ⟨b, 1, none⟩ v1).setCell ⟨b, 2, none⟩ v2).setCell ⟨b, 3, none⟩ v3).setCell ⟨b, 4, none⟩ v4).setCell ⟨b, 5, none⟩ v5).setCell ⟨b, 6, none⟩ v6
  Wf.heap[b]? = some (.cells #[v0, v1, v2, v3, v4, v5, v6] 105) ∧ (∀ j, j ≠ b → Wf.heap[j]? = W.heap[j]?) ∧ Wf.heap.size = W.heap.size ∧ ∀ (w0 : World), w0.heap.size ≤ b → Below w0.heap.size w0 W → Below w0.heap.size w0 Wf := by
 intro Wf
 refine ⟨?_, fun j hj => ?_, ?_, fun w0 hle hb => ?_⟩
 ·exact zik (i := 6) (zik (i := 5) (zik (i := 4) (zik (i := 3) (zik (i := 2) (zik (i := 1) (zik (i := 0) h v0) v1) v2) v3) v4) v5) v6
 ·show (World.setCell _ _ _).heap[j]? = _
  rw [za8 hj, za8 hj, za8 hj, za8 hj, za8 hj, za8 hj, za8 hj]
 ·show (World.setCell _ _ _).heap.size = _
  simp
 ·exact ((((((hb.setCell (p := ⟨b, 0, none⟩) hle _).setCell (p := ⟨b, 1, none⟩) hle _).setCell (p := ⟨b, 2, none⟩) hle _).setCell (p := ⟨b, 3, none⟩) hle _).setCell (p := ⟨b, 4, none⟩) hle _).setCell (p := ⟨b, 5, none⟩) hle _).setCell (p := ⟨b, 6, none⟩) hle _
section
variable {D d m : Nat}
def Copy (n0 : Nat) (W : World) (lo hi : Nat) (v : Value) (ss : List (St D d m)) : Prop :=
 (n0 ≤ lo ∧ hi ≤ W.heap.size) ∧ (∃ q y, v = .slice q ss.length y) ∧ ∀ W' : World, (∀ j, lo ≤ j → j < hi → W'.heap[j]? = W.heap[j]?) → StRow W' D d m v ss
theorem Copy.below {n0 lo hi : Nat} {W W' : World} {v : Value} {ss : List (St D d m)} (h : Copy n0 W lo hi v ss) (hb : Below W.heap.size W W') : Copy n0 W' lo hi v ss :=
 ⟨⟨h.1.1, Nat.le_trans h.1.2 hb.size⟩, h.2.1, fun W2 hW2 => h.2.2 W2 fun j j1 j2 => (hW2 j j1 j2).trans (hb.block j (Nat.lt_of_lt_of_le j2 h.1.2))⟩
def XSt (n0 : Nat) (K : Int) (S : ByteArray) (bs es : List (St D d m)) (f : Nat → Option Value) (W : World) : Prop :=
 (∀ v, f 15 = some v → ∃ lo hi, Copy n0 W lo hi v bs ∧ ∀ b, f 23 = some b → ∃ bx, b = .pointer (some ⟨bx, 0, none⟩) ∧ (bx < lo ∨ hi ≤ bx)) ∧
 (∀ v, f 21 = some v → ∃ lo hi, Copy n0 W lo hi v es ∧ ∀ b, f 23 = some b → ∃ bx, b = .pointer (some ⟨bx, 0, none⟩) ∧ (bx < lo ∨ hi ≤ bx)) ∧
 (∀ b, f 23 = some b → ∃ bx, b = .pointer (some ⟨bx, 0, none⟩) ∧ (n0 ≤ bx ∧ bx < W.heap.size) ∧ ZB W bx) ∧
 (∀ v, f 22 = some v → ∃ vb ve, f 15 = some vb ∧ f 21 = some ve ∧ v = .agg #[.int .i64 0, .int .i64 K, .string S, .slice none 0 0, .slice none 0 0, vb, ve])
variable {n0 : Nat} {K : Int} {S : ByteArray} {bs es : List (St D d m)}
theorem XSt.init (W : World) : XSt n0 K S bs es (fun _ => none) W := ⟨(fun _ h => nomatch h), (fun _ h => nomatch h), (fun _ h => nomatch h), fun _ h => nomatch h⟩
theorem XSt.other {f : Nat → Option Value} {W W' : World} {i : Nat} {v : Value} (h : XSt n0 K S bs es f W) (hb : Below W.heap.size W W') (hi : i ≠ 15 ∧ i ≠ 21 ∧ i ≠ 22 ∧ i ≠ 23) : XSt n0 K S bs es (zbx f i v) W' := by
 obtain ⟨h1, h2, h3, h4⟩ := h
 refine ⟨fun x hx => ?_, fun x hx => ?_, fun x hx => ?_, fun x hx => ?_⟩
 ·rw [za9 f v (Ne.symm hi.1)] at hx
  obtain ⟨lo, hh, c, r⟩ := h1 x hx
  exact ⟨lo, hh, c.below hb, fun b e => r b (by rwa [za9 f v (Ne.symm hi.2.2.2)] at e)⟩
 ·rw [za9 f v (Ne.symm hi.2.1)] at hx
  obtain ⟨lo, hh, c, r⟩ := h2 x hx
  exact ⟨lo, hh, c.below hb, fun b e => r b (by rwa [za9 f v (Ne.symm hi.2.2.2)] at e)⟩
 ·rw [za9 f v (Ne.symm hi.2.2.2)] at hx
  obtain ⟨bx, e, ⟨c1, c2⟩, c3⟩ := h3 x hx
  exact ⟨bx, e, ⟨c1, Nat.lt_of_lt_of_le c2 hb.size⟩, (hb.block _ c2).trans c3⟩
 ·rw [za9 f v (Ne.symm hi.2.2.1)] at hx
  obtain ⟨vb, ve, e1, e2, e3⟩ := h4 x hx
  exact ⟨vb, ve, by rw [za9 f v (Ne.symm hi.1)]; exact e1, by rw [za9 f v (Ne.symm hi.2.1)]; exact e2, e3⟩
theorem XSt.call15 {f : Nat → Option Value} {W W' : World} {v : Value} (h : XSt n0 K S bs es f W) (hn : f 15 = none) (hb : Below W.heap.size W W') (hs : n0 ≤ W.heap.size) (hv : ∃ q y, v = .slice q bs.length y) (hc : ∀ W2 : World, (∀ j, W.heap.size ≤ j → j < W'.heap.size → W2.heap[j]? = W'.heap[j]?) → StRow W2 D d m v bs) : XSt n0 K S bs es (zbx f 15 v) W' := by
 obtain ⟨h1, h2, h3, h4⟩ := h
 have u23 : zbx f 15 v 23 = f 23 := za9 f v (by decide)
 refine ⟨fun x hx => ?_, fun x hx => ?_, fun x hx => ?_, fun x hx => ?_⟩
 ·rw [zat] at hx
  obtain rfl := Option.some.inj hx
  refine ⟨W.heap.size, W'.heap.size, ⟨⟨hs, Nat.le_refl _⟩, hv, hc⟩, fun b e => ?_⟩
  rw [u23] at e
  obtain ⟨bx, e1, c, _⟩ := h3 b e
  exact ⟨bx, e1, .inl c.2⟩
 ·rw [za9 f v (by decide)] at hx
  obtain ⟨lo, hh, c, r⟩ := h2 x hx
  exact ⟨lo, hh, c.below hb, fun b e => r b (by rwa [u23] at e)⟩
 ·rw [u23] at hx
  obtain ⟨bx, e, ⟨c1, c2⟩, c3⟩ := h3 x hx
  exact ⟨bx, e, ⟨c1, Nat.lt_of_lt_of_le c2 hb.size⟩, (hb.block _ c2).trans c3⟩
 ·rw [za9 f v (by decide)] at hx
  obtain ⟨vb, ve, e1, _⟩ := h4 x hx
  rw [hn] at e1; cases e1
theorem XSt.call21 {f : Nat → Option Value} {W W' : World} {v : Value} (h : XSt n0 K S bs es f W) (hn : f 21 = none) (hb : Below W.heap.size W W') (hs : n0 ≤ W.heap.size) (hv : ∃ q y, v = .slice q es.length y) (hc : ∀ W2 : World, (∀ j, W.heap.size ≤ j → j < W'.heap.size → W2.heap[j]? = W'.heap[j]?) → StRow W2 D d m v es) : XSt n0 K S bs es (zbx f 21 v) W' := by
 obtain ⟨h1, h2, h3, h4⟩ := h
 have u23 : zbx f 21 v 23 = f 23 := za9 f v (by decide)
 refine ⟨fun x hx => ?_, fun x hx => ?_, fun x hx => ?_, fun x hx => ?_⟩
 ·rw [za9 f v (by decide)] at hx
  obtain ⟨lo, hh, c, r⟩ := h1 x hx
  exact ⟨lo, hh, c.below hb, fun b e => r b (by rwa [u23] at e)⟩
 ·rw [zat] at hx
  obtain rfl := Option.some.inj hx
  refine ⟨W.heap.size, W'.heap.size, ⟨⟨hs, Nat.le_refl _⟩, hv, hc⟩, fun b e => ?_⟩
  rw [u23] at e
  obtain ⟨bx, e1, c, _⟩ := h3 b e
  exact ⟨bx, e1, .inl c.2⟩
 ·rw [u23] at hx
  obtain ⟨bx, e, ⟨c1, c2⟩, c3⟩ := h3 x hx
  exact ⟨bx, e, ⟨c1, Nat.lt_of_lt_of_le c2 hb.size⟩, (hb.block _ c2).trans c3⟩
 ·rw [za9 f v (by decide)] at hx
  obtain ⟨vb, ve, _, e2, _⟩ := h4 x hx
  rw [hn] at e2; cases e2
theorem XSt.box {f : Nat → Option Value} {W : World} (h : XSt n0 K S bs es f W) (hs : n0 ≤ W.heap.size) : XSt n0 K S bs es (zbx f 23 (.pointer (some ⟨W.heap.size, 0, none⟩))) (W.alloc zS) := by
 obtain ⟨h1, h2, h3, h4⟩ := h
 have hb : Below W.heap.size W (W.alloc zS) := sal1 _ _
 refine ⟨fun x hx => ?_, fun x hx => ?_, fun x hx => ?_, fun x hx => ?_⟩
 ·rw [za9 f _ (by decide)] at hx
  obtain ⟨lo, hh, c, _⟩ := h1 x hx
  refine ⟨lo, hh, c.below hb, fun b e => ?_⟩
  rw [zat] at e
  exact ⟨_, (Option.some.inj e).symm, .inr c.1.2⟩
 ·rw [za9 f _ (by decide)] at hx
  obtain ⟨lo, hh, c, _⟩ := h2 x hx
  refine ⟨lo, hh, c.below hb, fun b e => ?_⟩
  rw [zat] at e
  exact ⟨_, (Option.some.inj e).symm, .inr c.1.2⟩
 ·rw [zat] at hx
  exact ⟨_, (Option.some.inj hx).symm, ⟨hs, by simp⟩, zaj W zS⟩
 ·rw [za9 f _ (by decide)] at hx
  obtain ⟨vb, ve, e1, e2, e3⟩ := h4 x hx
  exact ⟨vb, ve, by rw [za9 f _ (by decide)]; exact e1, by rw [za9 f _ (by decide)]; exact e2, e3⟩
theorem XSt.build {f : Nat → Option Value} {W : World} {vb ve : Value} (h : XSt n0 K S bs es f W) (e1 : f 15 = some vb) (e2 : f 21 = some ve) : XSt n0 K S bs es (zbx f 22 (.agg #[.int .i64 0, .int .i64 K, .string S, .slice none 0 0, .slice none 0 0, vb, ve])) W := by
 obtain ⟨h1, h2, h3, h4⟩ := h
 refine ⟨fun x hx => ?_, fun x hx => ?_, fun x hx => ?_, fun x hx => ?_⟩
 ·rw [za9 f _ (by decide)] at hx
  obtain ⟨lo, hh, c, r⟩ := h1 x hx
  exact ⟨lo, hh, c, fun b e => r b (by rwa [za9 f _ (by decide)] at e)⟩
 ·rw [za9 f _ (by decide)] at hx
  obtain ⟨lo, hh, c, r⟩ := h2 x hx
  exact ⟨lo, hh, c, fun b e => r b (by rwa [za9 f _ (by decide)] at e)⟩
 ·rw [za9 f _ (by decide)] at hx
  exact h3 x hx
 ·rw [zat] at hx
  exact ⟨vb, ve, by rw [za9 f _ (by decide)]; exact e1, by rw [za9 f _ (by decide)]; exact e2, (Option.some.inj hx).symm⟩
theorem XSt.done {f : Nat → Option Value} {W : World} {wr : World} {b v : Value} (hw : wr.heap.size = n0) (h : XSt n0 K S bs es f W) (hb : Below wr.heap.size wr W) (e23 : f 23 = some b) (e22 : f 22 = some v) :
  ∃ (bx : Nat) (qb qe : Option Addr) (yb ye : Nat), b = .pointer (some ⟨bx, 0, none⟩) ∧ v = .agg #[.int .i64 0, .int .i64 K, .string S, .slice none 0 0, .slice none 0 0, .slice qb bs.length yb, .slice qe es.length ye] ∧ ZB W bx ∧
   SI wr (fun W' => StRow W' D d m (.slice qb bs.length yb) bs ∧ StRow W' D d m (.slice qe es.length ye) es) (((((((W.setCell ⟨bx, 0, none⟩ (.int .i64 0)).setCell ⟨bx, 1, none⟩ (.int .i64 K)).setCell ⟨bx, 2, none⟩ (.string S)).setCell ⟨bx, 3, none⟩ (.slice none 0 0)).setCell ⟨bx, 4, none⟩ (.slice none 0 0)).setCell ⟨bx, 5, none⟩ (.slice qb bs.length yb)).setCell ⟨bx, 6, none⟩ (.slice qe es.length ye)).heap.size bx (ownS 0 K S (.slice none 0 0) (.slice none 0 0) (.slice qb bs.length yb) (.slice qe es.length ye)) (((((((W.setCell ⟨bx, 0, none⟩ (.int .i64 0)).setCell ⟨bx, 1, none⟩ (.int .i64 K)).setCell ⟨bx, 2, none⟩ (.string S)).setCell ⟨bx, 3, none⟩ (.slice none 0 0)).setCell ⟨bx, 4, none⟩ (.slice none 0 0)).setCell ⟨bx, 5, none⟩ (.slice qb bs.length yb)).setCell ⟨bx, 6, none⟩ (.slice qe es.length ye)) := by
 obtain ⟨h1, h2, h3, h4⟩ := h
 obtain ⟨bx, rfl, ⟨c1, c2⟩, hz⟩ := h3 b e23
 obtain ⟨vb, ve, e15, e21, rfl⟩ := h4 v e22
 obtain ⟨lo, hi, ⟨⟨b1, b2⟩, ⟨qb, yb, rfl⟩, fb⟩, rb⟩ := h1 vb e15
 obtain ⟨lo', hi', ⟨⟨b1', b2'⟩, ⟨qe, ye, rfl⟩, fe⟩, re⟩ := h2 ve e21
 obtain ⟨x1, e1, d1⟩ := rb _ e23
 obtain rfl : bx = x1 := by simpa using e1
 obtain ⟨x2, e2, d2⟩ := re _ e23
 obtain rfl : bx = x2 := by simpa using e2
 refine ⟨bx, qb, qe, yb, ye, rfl, rfl, hz, ?_⟩
 obtain ⟨s1, s2, s3, s4⟩ := stored (v0 := .int .i64 0) (v1 := .int .i64 K) (v2 := .string S) (v3 := .slice none 0 0) (v4 := .slice none 0 0) (v5 := .slice qb bs.length yb) (v6 := .slice qe es.length ye) hz
 refine ⟨s1, ⟨by omega, by rw [s3]; exact c2, Nat.le_refl _⟩, s4 wr (by omega) hb, fun W' hW' => ⟨fb W' fun j j1 j2 => ?_, fe W' fun j j1 j2 => ?_⟩⟩
 ·rw [hW' j (by omega) (by rw [s3]; omega) (by omega), s2 j (by omega)]
 ·rw [hW' j (by omega) (by rw [s3]; omega) (by omega), s2 j (by omega)]
end
section
variable {D d m : Nat} {n0 : Nat} {K : Int} {S : ByteArray} {bs es : List (St D d m)} {ops : Array Oper} {Q : Exit → Act → World → Prop} {a0 : Act} {n : Nat} {B : World → Prop} {vs : List (Option Value)} {i : Nat} {o : Oper}
theorem SGoal.plain (hB : ∀ W W', B W → Below W.heap.size W W' → B W') (hi : i ≠ 15 ∧ i ≠ 21 ∧ i ≠ 22 ∧ i ≠ 23)
  (h : ∀ (a : Act) (w : World), (∀ t, noB ops t = true → a.tmps.getD t undef = a0.tmps.getD t undef) → B w →
   (∀ j d x, (ops[j]?).bind (·.dst) = some d → Region.waitsFor .any ops i j = true → vs.getD j none = some x → a.tmps.getD d undef = x) →
   Region.wanted o (yielded ops a.tmps) = true ∧ o.wp Tryz.prog a w (fun a' w' => ∃ v, a' = a.put o.dst v ∧ Below w.heap.size w w' ∧ vs.getD i none = some v) Q) :
  YGoal Tryz.prog ops Q a0 n B (VP vs) (XSt n0 K S bs es) i o := fun a w f _ _ h3 _ h4 h5 h6 _ _ h8 => by
 obtain ⟨k1, k2⟩ := h a w h3 h4 fun j d x hj hw hx => VP.at (W := w) (h5 j _ (h8 j d hj hw)) hx
 refine ⟨k1, Oper.wp_mono ?_ k2⟩
 rintro a' w' ⟨v, rfl, hb, hv⟩
 exact ⟨v, rfl, hB _ _ h4 hb, VP.is v _ hv, fun j u hj => h5 j u hj, XSt.other h6 hb hi⟩
theorem SGoal.call15 {p : Option Addr} {c : Nat} {x : Operand} {t : TypeId} (hg : o.guard = none) (ho : o.op = .call { callee := .value (.func 15), args := #[x], argTypes := #[t] }) (hv0 : vs.getD 15 none = none) (hB : ∀ W W', B W → Below W.heap.size W W' → B W') (hbs : ∀ W, B W → n0 ≤ W.heap.size)
  (hx : ∀ a : Act, (∀ j d x, (ops[j]?).bind (·.dst) = some d → Region.waitsFor .any ops 15 j = true → vs.getD j none = some x → a.tmps.getD d undef = x) → a.eval x = .slice p bs.length c) (hc : ∀ W, B W → zg7 p c D d m bs W) :
  YGoal Tryz.prog ops Q a0 n B (VP vs) (XSt n0 K S bs es) 15 o := fun a w _ _ _ _ _ h4 h5 h6 hno _ h8 =>
 ⟨za1 hg, zcw ho (hx a fun j d _ hj hw hx => VP.at (W := w) (h5 j _ (h8 j d hj hw)) hx) owns_enter ((hc w h4).mono fun _ _ ⟨⟨q, y, he, hs⟩, hb⟩ => ⟨_, he, _, rfl, hB _ _ h4 hb, VP.free _ _ hv0, fun j u hj => h5 j u hj, XSt.call15 h6 hno hb (hbs _ h4) ⟨q, y, rfl⟩ hs⟩)⟩
theorem SGoal.call21 {p : Option Addr} {c : Nat} {x : Operand} {t : TypeId} (hg : o.guard = none) (ho : o.op = .call { callee := .value (.func 15), args := #[x], argTypes := #[t] }) (hv0 : vs.getD 21 none = none) (hB : ∀ W W', B W → Below W.heap.size W W' → B W') (hbs : ∀ W, B W → n0 ≤ W.heap.size)
  (hx : ∀ a : Act, (∀ j d x, (ops[j]?).bind (·.dst) = some d → Region.waitsFor .any ops 21 j = true → vs.getD j none = some x → a.tmps.getD d undef = x) → a.eval x = .slice p es.length c) (hc : ∀ W, B W → zg7 p c D d m es W) :
  YGoal Tryz.prog ops Q a0 n B (VP vs) (XSt n0 K S bs es) 21 o := fun a w _ _ _ _ _ h4 h5 h6 hno _ h8 =>
 ⟨za1 hg, zcw ho (hx a fun j d _ hj hw hx => VP.at (W := w) (h5 j _ (h8 j d hj hw)) hx) owns_enter ((hc w h4).mono fun _ _ ⟨⟨q, y, he, hs⟩, hb⟩ => ⟨_, he, _, rfl, hB _ _ h4 hb, VP.free _ _ hv0, fun j u hj => h5 j u hj, XSt.call21 h6 hno hb (hbs _ h4) ⟨q, y, rfl⟩ hs⟩)⟩
theorem SGoal.box (hg : o.guard = none) (ho : o.op = .alloc 105) (hv0 : vs.getD 23 none = none) (hB : ∀ W W', B W → Below W.heap.size W W' → B W') (hbs : ∀ W, B W → n0 ≤ W.heap.size) :
  YGoal Tryz.prog ops Q a0 n B (VP vs) (XSt n0 K S bs es) 23 o := fun _ _ _ _ _ _ _ h4 h5 h6 _ _ _ =>
 ⟨za1 hg, op_allocSt ho ⟨_, rfl, hB _ _ h4 (sal1 _ _), VP.free _ _ hv0, fun j u hj => h5 j u hj, XSt.box h6 (hbs _ h4)⟩⟩
theorem SGoal.build {d1 d2 d5 d6 : Nat} (hg : o.guard = none) (ho : o.op = .build 105 #[(1, .tmp d1), (2, .tmp d2), (5, .tmp d5), (6, .tmp d6)]) (hv0 : vs.getD 22 none = none)
  (h1 : ∀ a : Act, (∀ j d x, (ops[j]?).bind (·.dst) = some d → Region.waitsFor .any ops 22 j = true → vs.getD j none = some x → a.tmps.getD d undef = x) → a.tmps.getD d1 undef = .int .i64 K ∧ a.tmps.getD d2 undef = .string S)
  (e5 : (ops[15]?).bind (·.dst) = some d5) (w5 : Region.waitsFor .any ops 22 15 = true) (e6 : (ops[21]?).bind (·.dst) = some d6) (w6 : Region.waitsFor .any ops 22 21 = true) :
  YGoal Tryz.prog ops Q a0 n B (VP vs) (XSt n0 K S bs es) 22 o := fun a w f _ _ _ _ h4 h5 h6 _ _ h8 => by
 have f15 := h8 15 d5 e5 w5
 have f21 := h8 21 d6 e6 w6
 obtain ⟨_, _, ⟨_, ⟨qb, yb, eb⟩, _⟩, _⟩ := h6.1 _ f15
 obtain ⟨_, _, ⟨_, ⟨qe, ye, ee⟩, _⟩, _⟩ := h6.2.1 _ f21
 obtain ⟨k1, k2⟩ := h1 a fun j d x hj hw hx => VP.at (W := w) (h5 j _ (h8 j d hj hw)) hx
 rw [eb] at f15
 rw [ee] at f21
 exact ⟨za1 hg, op_buildSt ho k1 k2 eb ee ⟨_, rfl, h4, VP.free _ _ hv0, fun j u hj => h5 j u hj, XSt.build h6 f15 f21⟩⟩
end
def OSt (w : World) (p : Option Addr) (D d m : Nat) (k : Nat) (s : St D d (m + 1)) : Prop :=
 ∃ (g o : Nat) (A K : Int) (S : Bs) (ts : List (Ty D)) (xs : List (Ex D d)) (bs es : List (St D d m)) (pt px pb pe : Option Addr) (ct cx cb ce : Nat), s = (A, K, S, ts, xs, bs, es) ∧ p = some ⟨g, o, none⟩ ∧
  (w.cell? ⟨g, o + k * 7, none⟩ = some (.int .i64 A) ∧ w.cell? ⟨g, o + k * 7 + 1, none⟩ = some (.int .i64 K) ∧ w.cell? ⟨g, o + k * 7 + 2, none⟩ = some (.string ⟨S.toArray⟩) ∧ w.cell? ⟨g, o + k * 7 + 3, none⟩ = some (.slice pt ts.length ct) ∧ w.cell? ⟨g, o + k * 7 + 4, none⟩ = some (.slice px xs.length cx) ∧ w.cell? ⟨g, o + k * 7 + 5, none⟩ = some (.slice pb bs.length cb) ∧ w.cell? ⟨g, o + k * 7 + 6, none⟩ = some (.slice pe es.length ce)) ∧
  (ts.length ≤ 1000000 ∧ xs.length ≤ 1000000) ∧
  (∀ j (hj : j < ts.length), ∃ u, zhu w pt j u ∧ ∀ W, Below w.heap.size w W → Calls Tryz.prog 41 #[u] W fun e w' => (∃ u : V5, e = .returned (val5 u) ∧ (∀ x ∈ zdc u, x.oneCell' = true) ∧ ∀ W' : World, (∀ j, W.heap.size ≤ j → j < w'.heap.size → W'.heap[j]? = w'.heap[j]?) → TyValD W' D (val5 u) ts[j]) ∧ Below W.heap.size W w') ∧
  (∀ j (hj : j < xs.length), ∃ u, ExCell w px j u ∧ ∀ W, Below w.heap.size w W → Calls Tryz.prog 8 #[u] W fun e w' => (∃ u : V7, e = .returned (val7 u) ∧ (∀ x ∈ zbd u, x.oneCell' = true) ∧ ∀ W' : World, (∀ j, W.heap.size ≤ j → j < w'.heap.size → W'.heap[j]? = w'.heap[j]?) → EV W' D d (val7 u) xs[j]) ∧ Below W.heap.size W w') ∧
  (∀ W, Below w.heap.size w W → zg7 pb cb D d m bs W) ∧ (∀ W, Below w.heap.size w W → zg7 pe ce D d m es W)
def vO5 (g o k n c : Nat) (K : Int) (X : ByteArray) (vb ve : Value) : List (Option Value) :=
 [some (.slice (some ⟨g, o, none⟩) n c), some (.int .i64 (k : Int)), some (.pointer (some ⟨g, o + k * 7, none⟩)), some (.pointer (some ⟨g, o + k * 7 + 1, none⟩)), some (.int .i64 K), some (.slice (some ⟨g, o, none⟩) n c), some (.int .i64 (k : Int)), some (.pointer (some ⟨g, o + k * 7, none⟩)), some (.pointer (some ⟨g, o + k * 7 + 2, none⟩)), some (.string X),
  some (.slice (some ⟨g, o, none⟩) n c), some (.int .i64 (k : Int)), some (.pointer (some ⟨g, o + k * 7, none⟩)), some (.pointer (some ⟨g, o + k * 7 + 5, none⟩)), some vb, none, some (.slice (some ⟨g, o, none⟩) n c), some (.int .i64 (k : Int)), some (.pointer (some ⟨g, o + k * 7, none⟩)), some (.pointer (some ⟨g, o + k * 7 + 6, none⟩)), some ve, none, none, none, none]
theorem SI.cell3 {wr W : World} {F : World → Prop} {n bx : Nat} {A K : Int} {X : ByteArray} {vt vx vb ve : Value} (h : SI wr F n bx (ownS A K X vt vx vb ve) W) : W.cell? ⟨bx, 3, none⟩ = some vt := by rw [Lib.cell_of_heap h.1]; rfl
theorem SI.cell4 {wr W : World} {F : World → Prop} {n bx : Nat} {A K : Int} {X : ByteArray} {vt vx vb ve : Value} (h : SI wr F n bx (ownS A K X vt vx vb ve) W) : W.cell? ⟨bx, 4, none⟩ = some vx := by rw [Lib.cell_of_heap h.1]; rfl
theorem at_done {wr Wy : World} {F : World → Prop} {bx : Nat} {K : Int} {X : ByteArray} {vt vx vb ve : Value} (A : Int) (h : SI wr F Wy.heap.size bx (ownS 0 K X vt vx vb ve) Wy) : SI wr F (Wy.setCell ⟨bx, 0, none⟩ (.int .i64 A)).heap.size bx (ownS A K X vt vx vb ve) (Wy.setCell ⟨bx, 0, none⟩ (.int .i64 A)) := by
 have hs : (Wy.setCell ⟨bx, 0, none⟩ (.int .i64 A)).heap.size = Wy.heap.size := by simp
 rw [hs]
 obtain ⟨h1, ⟨h2, h3, h4⟩, h5, h6⟩ := id h
 refine h.step ?_ (h5.setCell (p := ⟨bx, 0, none⟩) h2 _) (by rw [hs]; exact Nat.le_refl _) fun j _ hne => za8 hne
 rw [zik h1]; rfl
theorem ost_run (p : Option Addr) (c : Nat) (D d m : Nat) (ss : List (St D d (m + 1))) (w : World) (hn : ss.length ≤ 1000000) (hP : ∀ k (hk : k < ss.length), OSt w p D d m k ss[k]) : zg7 p c D d (m + 1) ss w := by
 have HP := za3 hP
 clear hP
 obtain ⟨n, hnn⟩ : ∃ n, n = ss.length := ⟨_, rfl⟩
 rw [zg7, ← hnn]
 have HNN := za3 hnn
 rw [← hnn] at hn
 clear hnn
 go_enter Tryz.func15, Tryz.ntmps15
 go_wp2
 go_loopw [3, 4] (fun o i wr => ∃ (k : Nat) (vo : Value), i = .int .i64 k ∧ vo = o ∧ k ≤ n ∧ Hid (OSts w.heap.size wr vo D d (m + 1) (ss.take k)) ∧ Hid (Below w.heap.size w wr)) (fun _ i _ => n - (intOf i).toNat)
 case atStart => exact ⟨0, _, rfl, rfl, by omega, OSts.nil _ _ _ _ _, Below.refl _ _⟩
 case round =>
  obtain ⟨k, vo, rfl, rfl, hk, HO, HB⟩ := hrel
  by_cases hlt : k < n
  rotate_left
  ·obtain rfl : k = n := by omega
   have hlt' : ¬ (k : Int) < (k : Int) := by omega
   have HR := za3 (fun W' => (za0 HO).rows W')
   have hl := za0 HNN
   obtain ⟨es, hes, how, _⟩ := za0 HO
   obtain ⟨pv, cv, rfl, _⟩ := zaq how
   rw [show ss.take k = ss by rw [hl, List.take_length]] at HR ⊢
   rw [← hl]
   rw [← hl] at HR
   clear HO HP how hes hl HNN
   go_wp2
   go_ret
   exact ⟨⟨_, _, rfl, za0 HR⟩, za0 HB⟩
  have hlt' : (k : Int) < (n : Int) := by omega
  have hkss : k < ss.length := by have := za0 HNN; omega
  obtain ⟨g, o, A, K, S, ts, xs, bs, es, pt, px, pb, pe, ct, cx, cb, ce, hsk, rfl, ⟨a0, a1, a2, a3, a4, a5, a6⟩, ⟨l1, l2⟩, hT, hX, hBo, hEl⟩ := za0 HP k hkss
  have HSK := za3 hsk
  have HKS := za3 hkss
  obtain ⟨X, hXd⟩ : ∃ X : ByteArray, X = ⟨S.toArray⟩ := ⟨_, rfl⟩
  rw [← hXd] at a2
  have HXD := za3 hXd
  have HCE : Hid (∀ W, Below w.heap.size w W → W.cell? ⟨g, o + k * 7, none⟩ = some (.int .i64 A) ∧ W.cell? ⟨g, o + k * 7 + 1, none⟩ = some (.int .i64 K) ∧ W.cell? ⟨g, o + k * 7 + 2, none⟩ = some (.string X) ∧ W.cell? ⟨g, o + k * 7 + 3, none⟩ = some (.slice pt ts.length ct) ∧ W.cell? ⟨g, o + k * 7 + 4, none⟩ = some (.slice px xs.length cx) ∧ W.cell? ⟨g, o + k * 7 + 5, none⟩ = some (.slice pb bs.length cb) ∧ W.cell? ⟨g, o + k * 7 + 6, none⟩ = some (.slice pe es.length ce)) := fun W h => ⟨(h.cell (p := ⟨g, _, none⟩) (za2 a0)).trans a0, (h.cell (p := ⟨g, _, none⟩) (za2 a1)).trans a1, (h.cell (p := ⟨g, _, none⟩) (za2 a2)).trans a2, (h.cell (p := ⟨g, _, none⟩) (za2 a3)).trans a3, (h.cell (p := ⟨g, _, none⟩) (za2 a4)).trans a4, (h.cell (p := ⟨g, _, none⟩) (za2 a5)).trans a5, (h.cell (p := ⟨g, _, none⟩) (za2 a6)).trans a6⟩
  have HT := za3 hT
  have HX := za3 hX
  have CB := za3 hBo
  have CE := za3 hEl
  clear a0 a1 a2 a3 a4 a5 a6 hT hX hBo hEl hsk hXd HP
  go_upto_region 5 with fail
  go_cut [5] (fun x wx => ∃ (bx : Nat) (qb qe : Option Addr) (yb ye : Nat) (Wy : World), x = .pointer (some ⟨bx, 0, none⟩) ∧ Wy = wx ∧ Hid (SI wr (fun W' => StRow W' D d m (.slice qb bs.length yb) bs ∧ StRow W' D d m (.slice qe es.length ye) es) Wy.heap.size bx (ownS 0 K X (.slice none 0 0) (.slice none 0 0) (.slice qb bs.length yb) (.slice qe es.length ye)) Wy))
  case first =>
   have hb := za0 HB
   obtain ⟨e0, e1, e2, e3, e4, e5, e6⟩ := za0 HCE wr hb
   obtain ⟨B, hBd⟩ : ∃ B : World → Prop, B = fun W => Below wr.heap.size wr W := ⟨_, rfl⟩
   have toB : ∀ W, B W → Below wr.heap.size wr W := fun W h => by rw [hBd] at h; exact h
   have ofB : ∀ W, Below wr.heap.size wr W → B W := fun W h => by rw [hBd]; exact h
   have sB : ∀ W W', B W → Below W.heap.size W W' → B W' := fun W W' h hb => ofB _ (zcd (toB _ h) hb)
   have hbs : ∀ W, B W → wr.heap.size ≤ W.heap.size := fun W h => (toB W h).size
   have cC : ∀ W, B W → W.cell? ⟨g, o + k * 7 + 1, none⟩ = some (.int .i64 K) ∧ W.cell? ⟨g, o + k * 7 + 2, none⟩ = some (.string X) ∧ W.cell? ⟨g, o + k * 7 + 5, none⟩ = some (.slice pb bs.length cb) ∧ W.cell? ⟨g, o + k * 7 + 6, none⟩ = some (.slice pe es.length ce) := fun W h => by
    obtain ⟨e0, e1, e2, e3, e4, e5, e6⟩ := za0 HCE W (zcd hb (toB W h))
    exact ⟨e1, e2, e5, e6⟩
   have cB5 : ∀ W, B W → zg7 pb cb D d m bs W := fun W h => za0 CB W (zcd hb (toB W h))
   have cE5 : ∀ W, B W → zg7 pe ce D d m es W := fun W h => za0 CE W (zcd hb (toB W h))
   clear HCE HT HX CB CE HSK HKS HXD HNN HO HB hb e0 e1 e2 e3 e4 e5 e6
   go_wp2_with fail
   refine region_last (n := 98) (z := 24) (by kernel_rfl) (by kernel_rfl) (by kernel_rfl) (by kernel_rfl) rfl rfl rfl B (VP (vO5 g o k n c K X (.slice pb bs.length cb) (.slice pe es.length ce))) (XSt wr.heap.size K X bs es) (ofB _ (zad (Below.refl _ _))) (XSt.init _) ?each ?fin
   case each =>
    refine ⟨?_, ?_, ?_, ?_, ?_, ?_, ?_, ?_, ?_, ?_, ?_, ?_, ?_, ?_, ?_, ?_, ?_, ?_, ?_, ?_, ?_, ?_, ?_, ?_, ?_, trivial⟩
    ·exact fun _ => SGoal.plain sB (by decide) (fun a' W hkp hBW dep => ⟨za1 rfl, zbl rfl (show a'.eval (.tmp 0) = Value.slice (some ⟨g, o, none⟩) n c from hkp 0 (by kernel_rfl)) ⟨_, rfl, Below.refl _ _, rfl⟩⟩)
    ·exact fun _ => SGoal.plain sB (by decide) (fun a' W hkp hBW dep => ⟨za1 rfl, zbl rfl (show a'.eval (.tmp 4) = Value.int .i64 (k : Int) from hkp 4 (by kernel_rfl)) ⟨_, rfl, Below.refl _ _, rfl⟩⟩)
    ·exact fun _ => SGoal.plain sB (by decide) (fun a' W hkp hBW dep => ⟨za1 rfl, zgo rfl (dep 0 14 _ (by kernel_rfl) (by kernel_rfl) rfl) (dep 1 15 _ (by kernel_rfl) (by kernel_rfl) rfl) hlt' ⟨_, rfl, Below.refl _ _, rfl⟩⟩)
    ·exact fun _ => SGoal.plain sB (by decide) (fun a' W hkp hBW dep => ⟨za1 rfl, zgm (by decide) rfl (dep 2 16 _ (by kernel_rfl) (by kernel_rfl) rfl) ⟨_, rfl, Below.refl _ _, rfl⟩⟩)
    ·exact fun _ => SGoal.plain sB (by decide) (fun a' W hkp hBW dep => ⟨za1 rfl, op_loadN rfl (dep 3 17 _ (by kernel_rfl) (by kernel_rfl) rfl) (cC W hBW).1 ⟨_, rfl, Below.refl _ _, rfl⟩⟩)
    ·exact fun _ => SGoal.plain sB (by decide) (fun a' W hkp hBW dep => ⟨za1 rfl, zbl rfl (show a'.eval (.tmp 0) = Value.slice (some ⟨g, o, none⟩) n c from hkp 0 (by kernel_rfl)) ⟨_, rfl, Below.refl _ _, rfl⟩⟩)
    ·exact fun _ => SGoal.plain sB (by decide) (fun a' W hkp hBW dep => ⟨za1 rfl, zbl rfl (show a'.eval (.tmp 4) = Value.int .i64 (k : Int) from hkp 4 (by kernel_rfl)) ⟨_, rfl, Below.refl _ _, rfl⟩⟩)
    ·exact fun _ => SGoal.plain sB (by decide) (fun a' W hkp hBW dep => ⟨za1 rfl, zgo rfl (dep 5 19 _ (by kernel_rfl) (by kernel_rfl) rfl) (dep 6 20 _ (by kernel_rfl) (by kernel_rfl) rfl) hlt' ⟨_, rfl, Below.refl _ _, rfl⟩⟩)
    ·exact fun _ => SGoal.plain sB (by decide) (fun a' W hkp hBW dep => ⟨za1 rfl, zgm (by decide) rfl (dep 7 21 _ (by kernel_rfl) (by kernel_rfl) rfl) ⟨_, rfl, Below.refl _ _, rfl⟩⟩)
    ·exact fun _ => SGoal.plain sB (by decide) (fun a' W hkp hBW dep => ⟨za1 rfl, zfi rfl (dep 8 22 _ (by kernel_rfl) (by kernel_rfl) rfl) (cC W hBW).2.1 ⟨_, rfl, Below.refl _ _, rfl⟩⟩)
    ·exact fun _ => SGoal.plain sB (by decide) (fun a' W hkp hBW dep => ⟨za1 rfl, zbl rfl (show a'.eval (.tmp 0) = Value.slice (some ⟨g, o, none⟩) n c from hkp 0 (by kernel_rfl)) ⟨_, rfl, Below.refl _ _, rfl⟩⟩)
    ·exact fun _ => SGoal.plain sB (by decide) (fun a' W hkp hBW dep => ⟨za1 rfl, zbl rfl (show a'.eval (.tmp 4) = Value.int .i64 (k : Int) from hkp 4 (by kernel_rfl)) ⟨_, rfl, Below.refl _ _, rfl⟩⟩)
    ·exact fun _ => SGoal.plain sB (by decide) (fun a' W hkp hBW dep => ⟨za1 rfl, zgo rfl (dep 10 24 _ (by kernel_rfl) (by kernel_rfl) rfl) (dep 11 25 _ (by kernel_rfl) (by kernel_rfl) rfl) hlt' ⟨_, rfl, Below.refl _ _, rfl⟩⟩)
    ·exact fun _ => SGoal.plain sB (by decide) (fun a' W hkp hBW dep => ⟨za1 rfl, zgm (by decide) rfl (dep 12 26 _ (by kernel_rfl) (by kernel_rfl) rfl) ⟨_, rfl, Below.refl _ _, rfl⟩⟩)
    ·exact fun _ => SGoal.plain sB (by decide) (fun a' W hkp hBW dep => ⟨za1 rfl, zgd rfl (dep 13 27 _ (by kernel_rfl) (by kernel_rfl) rfl) (cC W hBW).2.2.1 ⟨_, rfl, Below.refl _ _, rfl⟩⟩)
    ·exact fun _ => SGoal.call15 rfl rfl rfl sB hbs (fun a' dep => (dep 14 28 _ (by kernel_rfl) (by kernel_rfl) rfl)) cB5
    ·exact fun _ => SGoal.plain sB (by decide) (fun a' W hkp hBW dep => ⟨za1 rfl, zbl rfl (show a'.eval (.tmp 0) = Value.slice (some ⟨g, o, none⟩) n c from hkp 0 (by kernel_rfl)) ⟨_, rfl, Below.refl _ _, rfl⟩⟩)
    ·exact fun _ => SGoal.plain sB (by decide) (fun a' W hkp hBW dep => ⟨za1 rfl, zbl rfl (show a'.eval (.tmp 4) = Value.int .i64 (k : Int) from hkp 4 (by kernel_rfl)) ⟨_, rfl, Below.refl _ _, rfl⟩⟩)
    ·exact fun _ => SGoal.plain sB (by decide) (fun a' W hkp hBW dep => ⟨za1 rfl, zgo rfl (dep 16 30 _ (by kernel_rfl) (by kernel_rfl) rfl) (dep 17 31 _ (by kernel_rfl) (by kernel_rfl) rfl) hlt' ⟨_, rfl, Below.refl _ _, rfl⟩⟩)
    ·exact fun _ => SGoal.plain sB (by decide) (fun a' W hkp hBW dep => ⟨za1 rfl, zgm (by decide) rfl (dep 18 32 _ (by kernel_rfl) (by kernel_rfl) rfl) ⟨_, rfl, Below.refl _ _, rfl⟩⟩)
    ·exact fun _ => SGoal.plain sB (by decide) (fun a' W hkp hBW dep => ⟨za1 rfl, zgd rfl (dep 19 33 _ (by kernel_rfl) (by kernel_rfl) rfl) (cC W hBW).2.2.2 ⟨_, rfl, Below.refl _ _, rfl⟩⟩)
    ·exact fun _ => SGoal.call21 rfl rfl rfl sB hbs (fun a' dep => (dep 20 34 _ (by kernel_rfl) (by kernel_rfl) rfl)) cE5
    ·exact fun _ => SGoal.build rfl rfl rfl (fun a' dep => ⟨(dep 4 18 _ (by kernel_rfl) (by kernel_rfl) rfl), (dep 9 23 _ (by kernel_rfl) (by kernel_rfl) rfl)⟩) (by kernel_rfl) (by kernel_rfl) (by kernel_rfl) (by kernel_rfl)
    ·exact fun _ => SGoal.box rfl rfl rfl sB hbs
    ·exact fun h => absurd rfl h
   case fin =>
    intro a' W f hz hdf hkp hBW hf hV hX
    obtain ⟨bx, qb, qe, yb, ye, eb, ev, hzb, hSI⟩ := XSt.done rfl hX (toB W hBW) (hf 23 5 (by kernel_rfl)) (hf 22 36 (by kernel_rfl))
    refine ⟨za1 rfl, op_storeSt rfl rfl eb ev hzb ⟨rfl, ?_⟩⟩
    have HSI := za3 hSI
    rw [zd3 hz rfl hdf hkp]
    clear hf hV hX hkp hSI hzb sB hbs toB ofB cC cB5 cE5 hBW
    simp only [List.foldl, Option.getD]
    rw [eb]
    go_wp2_with fail
    go_meet
    case rel => exact ⟨bx, qb, qe, yb, ye, _, rfl, rfl, za0 HSI⟩
  case rest =>
   obtain ⟨bx, qb, qe, yb, ye, Wy, rfl, rfl, HS⟩ := hcut
   clear CB CE
   go_upto_region 6 with fail
   go_cut [] (fun wx => ∃ Wz : World, Wz = wx ∧ Hid (SI wr (fun W' => StRow W' D d m (.slice qb bs.length yb) bs ∧ StRow W' D d m (.slice qe es.length ye) es) Wz.heap.size bx (ownS A K X (.slice none 0 0) (.slice none 0 0) (.slice qb bs.length yb) (.slice qe es.length ye)) Wz))
   case first =>
    have HD := za3 (at_done A (za0 HS))
    obtain ⟨i1, ⟨i2, i3, i4⟩, i5, _⟩ := za0 HS
    obtain ⟨e0, e1, e2, e3, e4, e5, e6⟩ := za0 HCE Wy (zcd (za0 HB) i5)
    have x0 : Wy.cell? ⟨bx, 0, none⟩ = some (.int .i64 0) := by rw [Lib.cell_of_heap i1]; rfl
    have xf := Lib.frozen_of_heap i1 0
    clear i1 i2 i3 i4 i5 HS HCE HT HX HSK HKS HXD HNN HO HB
    go_wp2_with fail
    go_meet
    case rel => exact ⟨_, rfl, za0 HD⟩
   case rest =>
    obtain ⟨W5, rfl, HS5⟩ := hcut
    clear HS
    go_upto_block 2 with fail
    go_cut [] (fun wx => ∃ (p4 : Option Addr) (c4 : Nat) (Wz : World), Wz = wx ∧ Hid (SI wr (fun W' => (StRow W' D d m (.slice qb bs.length yb) bs ∧ StRow W' D d m (.slice qe es.length ye) es) ∧ TyRow W' D (.slice p4 ts.length c4) ts) Wz.heap.size bx (ownS A K X (.slice p4 ts.length c4) (.slice none 0 0) (.slice qb bs.length yb) (.slice qe es.length ye)) Wz))
    case first =>
     clear HX HSK HKS HXD HNN HO
     go_wp2_with fail
     go_loopg [6] ts.length (fun gk i wq => ∃ (j : Nat) (q : Option Addr) (cq : Nat), i = .int .i64 j ∧ j + gk = ts.length ∧ Hid (OTys W5.heap.size wq (.slice q j cq) D (ts.take j)) ∧ Hid (SI wr (fun W' => StRow W' D d m (.slice qb bs.length yb) bs ∧ StRow W' D d m (.slice qe es.length ye) es) W5.heap.size bx (ownS A K X (.slice q j cq) (.slice none 0 0) (.slice qb bs.length yb) (.slice qe es.length ye)) wq))
     case atStart => exact ⟨0, none, 0, rfl, by omega, OTys.nil _ _ _, za0 HS5⟩
     case round =>
      obtain ⟨j, q, cq, rfl, hj, HOt, HSr⟩ := hrel
      obtain ⟨i1, ⟨i2, i3, i4⟩, i5, _⟩ := za0 HSr
      have HBq := za3 (zcd (za0 HB) i5)
      obtain ⟨e0, e1, e2, e3, e4, e5, e6⟩ := za0 HCE _ (za0 HBq)
      have x3 := (za0 HSr).cell3
      clear i1 i2 i3 i4 i5
      by_cases hlt2 : j < ts.length
      ·obtain ⟨u, ⟨gt, ot, K', S', qn, qq, q3, nn, d1, ne, d2, n3, d3, rfl, rfl, a0, a1, a2, a3, a4⟩, HI⟩ := za0 HT j hlt2
       have b0 := ((za0 HBq).cell (p := ⟨gt, _, none⟩) (za2 a0)).trans a0
       have b1 := ((za0 HBq).cell (p := ⟨gt, _, none⟩) (za2 a1)).trans a1
       have b2 := ((za0 HBq).cell (p := ⟨gt, _, none⟩) (za2 a2)).trans a2
       have b3 := ((za0 HBq).cell (p := ⟨gt, _, none⟩) (za2 a3)).trans a3
       have b4 := ((za0 HBq).cell (p := ⟨gt, _, none⟩) (za2 a4)).trans a4
       have hlt3 : (j : Int) < (ts.length : Int) := by omega
       have CL := za3 (sround_ty (za0 HSr) (za0 HOt) hlt2 l1 (fun W h => HI W (zcd (za0 HB) h)))
       clear HI a0 a1 a2 a3 a4 HOt HSr HBq HT HCE HS5 HB
       go_wp2_with fail
       go_region_law (first
        | (refine zde (u := .agg #[.int .i64 K', .string S', .slice qn nn d1, .slice qq ne d2, .slice q3 n3 d3]) rfl 41 (.tmp 64) 53 rfl (by simp [Act.eval]) zli ?_; refine (za0 CL).mono ?_; rintro e w1 ⟨K2, S2, rn, re, rp, m1, y1, m2, y2, m3, y3, rfl, f1, f2, g', cap, W4, E, f4, f5, f6, f7⟩; refine ⟨_, rfl, ?_⟩)
        | refine zc6 rfl (.tmp 56) (.tmp 66) 24 rfl (by simp [Act.eval]) (by simp [Act.eval]) E ?_)
       all_goals
        go_wp2_with fail
        go_roundg (ts.length - (j + 1))
        case measure => omega
        case rel => exact ⟨j + 1, _, _, by go_num, by omega, f6, f7⟩
      ·obtain rfl : j = ts.length := by omega
       have HM := za3 ((za0 HSr).more (fun W' hW' => (za0 HOt).rows W' hW'))
       rw [List.take_length] at HM
       have hlt3 : ¬ (ts.length : Int) < (ts.length : Int) := by omega
       clear HSr HOt HBq HT HCE HB HS5
       go_wp2_with fail
       go_meet
       case rel => exact ⟨q, cq, _, rfl, za0 HM⟩
    case rest =>
     obtain ⟨p4, c4, W6, rfl, HS6⟩ := hcut
     clear HS5 HT
     go_upto_block 4 with fail
     go_cut [] (fun wx => ∃ (p5 : Option Addr) (c5 : Nat) (Wz : World), Wz = wx ∧ Hid (SI wr (fun W' => ((StRow W' D d m (.slice qb bs.length yb) bs ∧ StRow W' D d m (.slice qe es.length ye) es) ∧ TyRow W' D (.slice p4 ts.length c4) ts) ∧ (ExRow W' D d (.slice p5 xs.length c5) xs ∧ ExCap W' D d (.slice p5 xs.length c5) xs)) Wz.heap.size bx (ownS A K X (.slice p4 ts.length c4) (.slice p5 xs.length c5) (.slice qb bs.length yb) (.slice qe es.length ye)) Wz))
     case first =>
      clear HSK HKS HXD HNN HO
      go_wp2_with fail
      go_loopg [7] xs.length (fun gk i wq => ∃ (j : Nat) (q : Option Addr) (cq : Nat), i = .int .i64 j ∧ j + gk = xs.length ∧ Hid (OExs W6.heap.size wq (.slice q j cq) D d (xs.take j)) ∧ Hid (SI wr (fun W' => (StRow W' D d m (.slice qb bs.length yb) bs ∧ StRow W' D d m (.slice qe es.length ye) es) ∧ TyRow W' D (.slice p4 ts.length c4) ts) W6.heap.size bx (ownS A K X (.slice p4 ts.length c4) (.slice q j cq) (.slice qb bs.length yb) (.slice qe es.length ye)) wq))
      case atStart => exact ⟨0, none, 0, rfl, by omega, OExs.nil _ _ _ _, za0 HS6⟩
      case round =>
       obtain ⟨j, q, cq, rfl, hj, HOt, HSr⟩ := hrel
       obtain ⟨i1, ⟨i2, i3, i4⟩, i5, _⟩ := za0 HSr
       have HBq := za3 (zcd (za0 HB) i5)
       obtain ⟨e0, e1, e2, e3, e4, e5, e6⟩ := za0 HCE _ (za0 HBq)
       have x4 := (za0 HSr).cell4
       clear i1 i2 i3 i4 i5
       by_cases hlt2 : j < xs.length
       ·obtain ⟨u, ⟨gt, ot, A', K', N', S', qn, qq, q3, nn, d1, ne, d2, n3, d3, rfl, rfl, a0, a1, a2, a3, a4, a5, a6⟩, HI⟩ := za0 HX j hlt2
        have b0 := ((za0 HBq).cell (p := ⟨gt, _, none⟩) (za2 a0)).trans a0
        have b1 := ((za0 HBq).cell (p := ⟨gt, _, none⟩) (za2 a1)).trans a1
        have b2 := ((za0 HBq).cell (p := ⟨gt, _, none⟩) (za2 a2)).trans a2
        have b3 := ((za0 HBq).cell (p := ⟨gt, _, none⟩) (za2 a3)).trans a3
        have b4 := ((za0 HBq).cell (p := ⟨gt, _, none⟩) (za2 a4)).trans a4
        have b5 := ((za0 HBq).cell (p := ⟨gt, _, none⟩) (za2 a5)).trans a5
        have b6 := ((za0 HBq).cell (p := ⟨gt, _, none⟩) (za2 a6)).trans a6
        have hlt3 : (j : Int) < (xs.length : Int) := by omega
        have CL := za3 (sround_ex (za0 HSr) (za0 HOt) hlt2 l2 (fun W h => HI W (zcd (za0 HB) h)))
        clear HI a0 a1 a2 a3 a4 a5 a6 HOt HSr HBq HX HCE HS6 HB
        go_wp2_with fail
        go_region_law (first
         | (refine zde (u := .agg #[.int .i64 A', .int .i64 K', .int .i64 N', .string S', .slice qn nn d1, .slice qq ne d2, .slice q3 n3 d3]) rfl 8 (.tmp 88) 28 rfl (by simp [Act.eval]) ownx_enter ?_; refine (za0 CL).mono ?_; rintro e w1 ⟨A2, K2, N2, S2, rn, re, rp, m1, y1, m2, y2, m3, y3, rfl, f1, f2, g', cap, W4, E, f4, f5, f6, f7⟩; refine ⟨_, rfl, ?_⟩)
         | refine zc6 rfl (.tmp 80) (.tmp 90) 26 rfl (by simp [Act.eval]) (by simp [Act.eval]) E ?_)
        all_goals
         go_wp2_with fail
         go_roundg (xs.length - (j + 1))
         case measure => omega
         case rel => exact ⟨j + 1, _, _, by go_num, by omega, f6, f7⟩
       ·obtain rfl : j = xs.length := by omega
        have HM := za3 ((za0 HSr).more (fun W' hW' => And.intro ((za0 HOt).rows W' hW') ((za0 HOt).caps W' hW')))
        rw [List.take_length] at HM
        have hlt3 : ¬ (xs.length : Int) < (xs.length : Int) := by omega
        clear HSr HOt HBq HX HCE HB HS6
        go_wp2_with fail
        go_meet
        case rel => exact ⟨q, cq, _, rfl, za0 HM⟩
     case rest =>
      obtain ⟨p5, c5, W7, rfl, HS7⟩ := hcut
      clear HS6 HX
      obtain ⟨i1, ⟨i2, i3, i4⟩, i5, i6⟩ := za0 HS7
      have CZ : W7.cell? ⟨bx, 0, none⟩ = some (.int .i64 A) ∧ W7.cell? ⟨bx, 1, none⟩ = some (.int .i64 K) ∧ W7.cell? ⟨bx, 2, none⟩ = some (.string X) ∧ W7.cell? ⟨bx, 3, none⟩ = some (.slice p4 ts.length c4) ∧ W7.cell? ⟨bx, 4, none⟩ = some (.slice p5 xs.length c5) ∧ W7.cell? ⟨bx, 5, none⟩ = some (.slice qb bs.length yb) ∧ W7.cell? ⟨bx, 6, none⟩ = some (.slice qe es.length ye) :=
       ⟨by rw [Lib.cell_of_heap i1]; rfl, by rw [Lib.cell_of_heap i1]; rfl, by rw [Lib.cell_of_heap i1]; rfl, by rw [Lib.cell_of_heap i1]; rfl, by rw [Lib.cell_of_heap i1]; rfl, by rw [Lib.cell_of_heap i1]; rfl, by rw [Lib.cell_of_heap i1]; rfl⟩
      obtain ⟨z0, z1, z2, z3, z4, z5, z6⟩ := CZ
      have hks := za0 HKS
      obtain ⟨g', cap, W4, E, hot, hs4, hk4, hb4⟩ := append_sts (u := (.int .i64 A, .int .i64 K, .string X, .slice p4 ts.length c4, .slice p5 xs.length c5, .slice qb bs.length yb, .slice qe es.length ye)) (t := ss[k]'hks) (za0 HO) (za0 HB).size i5 (fun W' hW' => by
       obtain ⟨⟨⟨r3, r4⟩, r1⟩, r2⟩ := i6 W' fun j j1 j2 _ => hW' j j1 j2
       have hx : X = ⟨S.toArray⟩ := za0 HXD
       have hsk : ss[k]'hks = (A, K, S, ts, xs, bs, es) := za0 HSK
       rw [hsk, hx]
       exact ⟨p4, p5, qb, qe, c4, c5, yb, ye, rfl, r1, r2, r3, r4⟩) (fun x hx => by
       simp [zbd] at hx
       rcases hx with rfl | rfl | rfl | rfl | rfl | rfl | rfl <;> rfl) (by rw [List.length_take]; omega)
      rw [List.length_take, Nat.min_eq_left (by omega)] at E hot
      rw [← zdd hks] at hot
      have HE := za3 E
      have HOT := za3 hot
      have HB4 := za3 ((za0 HB).trans (hb4.mono (Nat.le_refl _)))
      clear E hot hs4 hk4 hb4 i1 i2 i3 i4 i5 i6 HO HS7 HCE HSK HKS HXD HNN HB
      go_wp2_with (at_builtin; refine za4 rfl (.tmp 93) (.tmp 95) 40 rfl rfl rfl (za0 HE) ?_; clear HE)
      go_roundw
      case rel => exact ⟨k + 1, _, by go_num, rfl, by omega, za0 HOT, za0 HB4⟩
      case measure => simp [intOf]; omega
theorem owns_any (D d : Nat) : ∀ m, OwnSAt D d m
 | 0 => fun ss p c w _ _ => by
  match ss with
  | [] =>
   have h := ost_run p c D d 0 [] w (by simp) fun k hk => absurd hk (by simp)
   unfold zg7 at h ⊢
   exact h.mono fun e w' ⟨⟨q, cq, he, _⟩, hb⟩ => ⟨⟨q, cq, he, fun _ _ => ⟨q, cq, rfl⟩⟩, hb⟩
  | s :: _ => exact nomatch s
 | m + 1 => fun ss p c w hv hz => by
  have IH := owns_any D d m
  have hlen : ss.length ≤ zey D d (m + 1) ss := by
   clear hz hv
   rw [zey]
   induction ss with
   | nil => simp
   | cons x r ih =>
    simp only [List.map_cons, List.sum_cons, List.length_cons]
    omega
  refine ost_run p c D d m ss w (by omega) fun k hk => ?_
  obtain ⟨p1, c1, e, hp⟩ := hv
  injection e with e1 _ _
  subst e1
  obtain ⟨g, o, vt, vx, vb, ve, rfl, a0, a1, a2, a3, a4, a5, a6, r1, r2, r3, r4⟩ := hp k ss[k] (by simp)
  have hsz : 1 + (zc7 ss[k]).length + szL D (sT ss[k]) + ze9 D d (sX ss[k]) + zey D d m (sB ss[k]) + zey D d m (sE ss[k]) ≤ 1000000 := by
   refine Nat.le_trans ?_ hz
   rw [zey]; exact zet (List.mem_map.2 ⟨ss[k], by simp, rfl⟩)
  generalize ss[k] = s at a0 a1 a2 a3 a4 a5 a6 r1 r2 r3 r4 hsz ⊢
  obtain ⟨A, K, S, ts, xs, bs, es⟩ := s
  dsimp only [sAt, zhh, zc7, sT, sX, sB, sE] at *
  obtain ⟨pt, ct, rfl⟩ := r1.slice
  obtain ⟨px, cx, rfl⟩ := r2.1.slice
  obtain ⟨pb, cb, rfl⟩ := r3.slice
  obtain ⟨pe, ce, rfl⟩ := r4.slice
  have h4 := Nat.le_trans (zcr _ ts) (zd5 _ ts)
  have h5 := zl7 xs
  refine ⟨g, o, A, K, S, ts, xs, bs, es, pt, px, pb, pe, ct, cx, cb, ce, rfl, rfl, ⟨a0, a1, a2, a3, a4, a5, a6⟩, ⟨by omega, by omega⟩, fun j hj => ?_, fun j hj => ?_, fun W hW => IH bs pb cb W (StRow.below hW m r3) (by omega), fun W hW => IH es pe ce W (StRow.below hW m r4) (by omega)⟩
  ·obtain ⟨u, hu, hv⟩ := r1.at j hj
   have hk2 := ze6 (List.getElem_mem hj)
   exact ⟨u, hu, fun W hW => own_any D _ u W (TyValD.below hW hv) (by omega)⟩
  ·obtain ⟨u, hu, hv⟩ := r2.1.at j hj
   have hk2 := zku (List.getElem_mem hj)
   exact ⟨u, hu, fun W hW => ownx_any D d _ u W (ExValD.below hW hv) (by omega)⟩
end Go.Proofs.YtmpbbmfbgcpplaaGreatDoor
