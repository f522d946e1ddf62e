import Derived.Test.YtmpbbmfbgcpplaaGreatDoorQOwnG
import Derived.Test.YtmpbbmfbgcpplaaGreatDoorQSizeG
import Derived.Test.YtmpbbmfbgcpplaaGreatDoorQExF
import Derived.Deep.CutBlock
import Derived.Deep.LoopGhost
import Derived.Deep.DeepCutAuto
set_option maxHeartbeats 1000000
set_option maxRecDepth 100000
namespace Go.Proofs.YtmpbbmfbgcpplaaGreatDoor
open Go Go.RowKit Lx
abbrev V7 : Type := Value × Value × Value × Value × Value × Value × Value
def zbd (u : V7) : List Value := [u.1, u.2.1, u.2.2.1, u.2.2.2.1, u.2.2.2.2.1, u.2.2.2.2.2.1, u.2.2.2.2.2.2]
def val7 (u : V7) : Value := .agg #[u.1, u.2.1, u.2.2.1, u.2.2.2.1, u.2.2.2.2.1, u.2.2.2.2.2.1, u.2.2.2.2.2.2]
theorem zje {u : V7} {a b c d e f g : Value} (h : val7 u = .agg #[a, b, c, d, e, f, g]) : u.1 = a ∧ u.2.1 = b ∧ u.2.2.1 = c ∧ u.2.2.2.1 = d ∧ u.2.2.2.2.1 = e ∧ u.2.2.2.2.2.1 = f ∧ u.2.2.2.2.2.2 = g := by
 have e' : #[u.1, u.2.1, u.2.2.1, u.2.2.2.1, u.2.2.2.2.1, u.2.2.2.2.2.1, u.2.2.2.2.2.2] = #[a, b, c, d, e, f, g] := by
  unfold val7 at h
  injection h
 have e2 : [u.1, u.2.1, u.2.2.1, u.2.2.2.1, u.2.2.2.2.1, u.2.2.2.2.2.1, u.2.2.2.2.2.2] = [a, b, c, d, e, f, g] := congrArg Array.toList e'
 simpa using e2
theorem zgk : ∀ (es : List V7) (j i : Nat) (u : V7) (c : Value), es[j]? = some u → (zbd u)[i]? = some c → (es.flatMap zbd)[j * 7 + i]? = some c
 | [], j, i, u, c, h, _ => by simp at h
 | x :: r, 0, i, u, c, h, hc => by
  simp at h; subst h
  have hi : i < (zbd x).length := (List.getElem?_eq_some_iff.1 hc).1
  rw [List.flatMap_cons, show 0 * 7 + i = i by omega, List.getElem?_append_left hi]; exact hc
 | x :: r, j + 1, i, u, c, h, hc => by
  have ih := zgk r j i u c (by simpa using h) hc
  rw [List.flatMap_cons, List.getElem?_append_right (by simp [zbd]; omega), show (j + 1) * 7 + i - (zbd x).length = j * 7 + i by simp [zbd]; omega]
  exact ih
def ExCapD (W : World) (D : Nat) : (d : Nat) → Value → Ex D d → Prop
 | 0, _, _ => False
 | d + 1, v, x => ∃ a b c e f g vp : Value, v = .agg #[a, b, c, e, f, g, vp] ∧ ExCap W D d vp (xPs x)
theorem ExCapD.below {w w' : World} {D : Nat} (hb : Below w.heap.size w w') : ∀ {d : Nat} {v : Value} {x : Ex D d}, ExCapD w D d v x → ExCapD w' D d v x
 | 0, _, _, h => h
 | d + 1, _, _, ⟨a, b, c, e, f, g, vp, h, hc⟩ => ⟨a, b, c, e, f, g, vp, h, ExCap.below hb d hc⟩
def EV (W : World) (D d : Nat) (v : Value) (x : Ex D d) : Prop := ExValD W D d v x ∧ ExCapD W D d v x
theorem EV.below {w w' : World} {D d : Nat} {v : Value} {x : Ex D d} (h : EV w D d v x) (hb : Below w.heap.size w w') : EV w' D d v x := ⟨ExValD.below hb h.1, ExCapD.below hb h.2⟩
def OExs (B : Nat) (W : World) (v : Value) (D d : Nat) (ts : List (Ex D d)) : Prop :=
 ∃ es : List V7, es.length = ts.length ∧ W.ownsRow B 28 7 v ts.length (es.flatMap zbd) ∧ ∀ (j : Nat) (u : V7) (t : Ex D d), es[j]? = some u → ts[j]? = some t → Fr B v.ownBlock W (fun W' => EV W' D d (val7 u) t)
theorem OExs.nil (B : Nat) (W : World) (D d : Nat) : OExs B W (.slice none 0 0) D d [] := ⟨[], rfl, World.ownsRow_nil _ _ _ _, fun j u t h => by simp at h⟩
theorem OExs.row {B : Nat} {W : World} {v : Value} {D : Nat} {ts : List (Ex D 0)} : OExs B W v D 0 ts → ts = [] := fun _ => by
 cases ts with
 | nil => rfl
 | cons t _ => exact nomatch t
theorem OExs.rows {B : Nat} {W : World} {v : Value} {D : Nat} : ∀ {d : Nat} {ts : List (Ex D d)}, OExs B W v D d ts → ∀ W' : World, (∀ j, B ≤ j → j < W.heap.size → W'.heap[j]? = W.heap[j]?) → ExRow W' D d v ts
 | 0, ts, h, W', _ => by
  obtain rfl := h.row
  obtain ⟨es, _, ho, _⟩ := h
  obtain ⟨p, c, rfl, _⟩ := zaq ho
  exact ⟨p, c, rfl⟩
 | d + 1, ts, ⟨es, hl, ho, he⟩, W', hW' => by
  obtain ⟨p, c, rfl, hc⟩ := zaq ho
  refine ⟨p, c, rfl, fun j t ht => ?_⟩
  have hj : j < ts.length := (List.getElem?_eq_some_iff.1 ht).1
  have hu : es[j]? = some es[j] := by simp
  have hv := (he j _ t hu ht W' fun i h1 h2 _ => hW' i h1 h2).1
  obtain ⟨pt, pn, pp, ct, cn, cp, e, r1, r2, r3⟩ := hv
  obtain ⟨q0, q1, q2, q3, q4, q5, q6⟩ := zje e
  rcases ho.2 with ⟨_, h0⟩ | ⟨g, cap, cur, e3, hb, hg, _⟩
  ·omega
  ·injection e3 with e4 _ _
   subst e4
   have hlt := (Array.getElem?_eq_some_iff.1 hg).1
   have hcell : ∀ i x, (zbd es[j])[i]? = some x → W'.cell? ⟨g, 0 + j * 7 + i, none⟩ = some x := fun i x hx => by
    rw [zhl (hW' g hb hlt), Nat.zero_add]
    have := ho.cells (g := g) rfl _ _ (zgk es j i _ x hu hx)
    rwa [addr_add] at this
   exact ⟨g, 0, _, _, _, rfl, (by have := hcell 0 _ rfl; rw [q0] at this; simpa using this), (by have := hcell 1 _ rfl; rw [q1] at this; exact this), (by have := hcell 2 _ rfl; rw [q2] at this; exact this), (by have := hcell 3 _ rfl; rw [q3] at this; exact this), (by have := hcell 4 _ rfl; rw [q4] at this; exact this), (by have := hcell 5 _ rfl; rw [q5] at this; exact this), (by have := hcell 6 _ rfl; rw [q6] at this; exact this), r1, r2, r3⟩
theorem OExs.caps {B : Nat} {W : World} {v : Value} {D : Nat} : ∀ {d : Nat} {ts : List (Ex D d)}, OExs B W v D d ts → ∀ W' : World, (∀ j, B ≤ j → j < W.heap.size → W'.heap[j]? = W.heap[j]?) → ExCap W' D d v ts
 | 0, _, _, _, _ => trivial
 | d + 1, ts, ⟨es, hl, ho, he⟩, W', hW' => by
  obtain ⟨p, c, rfl, hc⟩ := zaq ho
  refine ⟨p, c, rfl, hc, fun j t ht => ?_⟩
  have hj : j < ts.length := (List.getElem?_eq_some_iff.1 ht).1
  have hu : es[j]? = some es[j] := by simp
  obtain ⟨a0, a1, a2, a3, a4, a5, vp, e, hcp⟩ := (he j _ t hu ht W' fun i h1 h2 _ => hW' i h1 h2).2
  obtain ⟨_, _, _, _, _, _, q6⟩ := zje e
  rcases ho.2 with ⟨_, h0⟩ | ⟨g, cap, cur, e3, hb, hg, _⟩
  ·omega
  ·injection e3 with e4 _ _
   subst e4
   have hlt := (Array.getElem?_eq_some_iff.1 hg).1
   have h6 : W'.cell? ⟨g, 0 + j * 7 + 6, none⟩ = some vp := by
    rw [zhl (hW' g hb hlt), Nat.zero_add]
    have := ho.cells (g := g) rfl _ _ (zgk es j 6 _ _ hu (show (zbd es[j])[6]? = some vp by rw [← q6]; rfl))
    rwa [addr_add] at this
   exact ⟨g, 0, vp, rfl, h6, hcp⟩
theorem info_ex : (Tryz.prog.info? 28).map (fun i => (i.zero, i.size, i.bytes)) = some (some (.agg #[.int .i64 0, .int .i64 0, .int .i64 0, .string ⟨#[]⟩, .slice none 0 0, .slice none 0 0, .slice none 0 0]), 7, 112) := by kernel_rfl
theorem append_exs {B D d : Nat} {wr W2 : World} {v : Value} {ts : List (Ex D d)} {t : Ex D d} {u : V7} (h : OExs B wr v D d ts) (hB : B ≤ wr.heap.size) (hb : Below wr.heap.size wr W2) (hu : ∀ W' : World, (∀ j, wr.heap.size ≤ j → j < W2.heap.size → W'.heap[j]? = W2.heap[j]?) → EV W' D d (val7 u) t) (h1 : ∀ x ∈ zbd u, x.oneCell' = true) (hl : ts.length ≤ 1000000) :
  ∃ (g cap : Nat) (W4 : World), (Builtin.append_ #[26, 26] 26 #[v, .slice (some ⟨W2.heap.size, 0, none⟩) 1 1]).run Tryz.prog (W2.alloc (.cells #[u.1, u.2.1, u.2.2.1, u.2.2.2.1, u.2.2.2.2.1, u.2.2.2.2.2.1, u.2.2.2.2.2.2] 28)) = .ok (.slice (some ⟨g, 0, none⟩) (ts.length + 1) cap) W4 ∧
   OExs B W4 (.slice (some ⟨g, 0, none⟩) (ts.length + 1) cap) D d (ts ++ [t]) ∧ W2.heap.size ≤ W4.heap.size ∧ (∀ j, j < W2.heap.size → some j ≠ v.ownBlock → W4.heap[j]? = W2.heap[j]?) ∧ Below B wr W4 := by
 obtain ⟨es, hel, ho, he⟩ := h
 obtain ⟨i0, hi, hz0, hz1, hz2⟩ := info_parts info_ex
 have hs2 := hb.size
 have ho2 : W2.ownsRow B 28 7 v ts.length (es.flatMap zbd) := ho.kept (zaa hb) (by cases v.ownBlock <;> simp)
 obtain ⟨g, cap, W4, hr, how, hgr, hgg, _⟩ := run_append_lies (P := Tryz.prog) (W2.alloc (.cells #[u.1, u.2.1, u.2.2.1, u.2.2.2.1, u.2.2.2.2.1, u.2.2.2.2.2.1, u.2.2.2.2.2.2] 28)) 26 26 B 28 i0 (.agg #[.int .i64 0, .int .i64 0, .int .i64 0, .string ⟨#[]⟩, .slice none 0 0, .slice none 0 0, .slice none 0 0]) 7 112 Tryz.underlying26 hi hz0 hz1 hz2 rfl (by decide) v ts.length _
  (ho2.alloc _) ⟨W2.heap.size, 0, none⟩ 1 1 (zbd u) rfl
  (fun j x hx => by rw [addr_add, World.cell?_alloc_at _ _ _ _ rfl, ← hx]; simp [zbd]) h1 (by omega) (by unfold maxLen; omega) (by omega) (by simp; omega) (W2.heap.size + 1) (by simp)
 have hown : ∀ k, v.ownBlock = some k → B ≤ k ∧ k < wr.heap.size := ho.lt
 have hs4 : W2.heap.size + 1 ≤ W4.heap.size := by have := hgr.size; simpa using this
 have hkeep : ∀ j, j < W2.heap.size → some j ≠ v.ownBlock → W4.heap[j]? = W2.heap[j]? := fun j hj hne => (hgr.block j (by simp; omega) hne).trans (((Below.refl W2.heap.size W2).alloc (Nat.le_refl _) _).block j hj)
 have hnew : (some g = v.ownBlock) ∨ ∀ g2, some g = some g2 → W2.heap.size ≤ g2 := by
  rcases hgg with e | e
  ·exact .inl e.symm
  ·exact .inr fun g2 e2 => by cases e2; omega
 refine ⟨g, cap, W4, hr, ⟨es ++ [u], by simp [hel], by simpa [zbd, List.flatMap_append] using how, fun j x s hj hs => ?_⟩, by omega, hkeep, ?_⟩
 ·show Fr B (some g) W4 _
  rcases Nat.lt_or_ge j ts.length with hlt | hge
  ·rw [List.getElem?_append_left (by omega)] at hj
   rw [List.getElem?_append_left hlt] at hs
   refine (he j x s hj hs).step (by omega) (fun i hi hne => ?_) ?_
   ·rw [hkeep i (by omega) hne]
    exact hb.block i hi
   ·rcases hnew with e | e
    ·exact .inl e
    ·exact .inr fun g2 e2 => Nat.le_trans hs2 (e g2 e2)
  ·rw [List.getElem?_append_right (by omega)] at hj
   rw [List.getElem?_append_right hge] at hs
   have ej : j - ts.length = 0 := by
    rcases Nat.eq_zero_or_pos (j - ts.length) with e | e
    ·exact e
    ·rw [List.getElem?_eq_none (by simp; omega)] at hs; cases hs
   rw [ej] at hs
   rw [hel, ej] at hj
   simp at hj hs
   subst hj hs
   intro W' hW'
   refine hu W' fun i h2 h3 => ?_
   have hne : some i ≠ v.ownBlock := fun e => by have := (hown i e.symm).2; omega
   rw [hW' i (by omega) (by omega) ?_, hkeep i h3 hne]
   rcases hnew with e | e
   ·rw [e]; exact hne
   ·intro e2
    have := e i e2.symm
    omega
 ·refine ((hb.mono hB).alloc (by omega) _).grown hgr (by simp; omega) fun k ek => (hown k ek).1
theorem val7_form : ∀ {D d : Nat} {W : World} {u : V7} {x : Ex D d}, ExValD W D d (val7 u) x → ∃ (A2 K2 N2 : Int) (S2 : ByteArray) (rt rn rp : Option Addr) (m1 y1 m2 y2 m3 y3 : Nat), u = (.int .i64 A2, .int .i64 K2, .int .i64 N2, .string S2, .slice rt m1 y1, .slice rn m2 y2, .slice rp m3 y3)
 | _, 0, _, _, _, h => h.elim
 | D, d + 1, W, (u0, u1, u2, u3, u4, u5, u6), t, h => by
  obtain ⟨pt, pn, pp, ct, cn, cp, e, _⟩ := h
  obtain ⟨q0, q1, q2, q3, q4, q5, q6⟩ := zje e
  dsimp only at q0 q1 q2 q3 q4 q5 q6
  subst q0 q1 q2 q3 q4 q5 q6
  exact ⟨_, _, _, _, _, _, _, _, _, _, _, _, _, rfl⟩
abbrev zii (A K N : Int) (S : ByteArray) (vt vn vp : Value) : Obj := .cells #[.int .i64 A, .int .i64 K, .int .i64 N, .string S, vt, vn, vp] 28
abbrev ownX0 : Obj := zii 0 0 0 ⟨#[]⟩ (.slice none 0 0) (.slice none 0 0) (.slice none 0 0)
def OwnXAt (D d : Nat) : Prop := ∀ (x : Ex D d) (v : Value) (w : World), ExValD w D d v x → szX D d x ≤ 1000000 →
 Calls Tryz.prog 8 #[v] w fun e w' => (∃ u : V7, e = .returned (val7 u) ∧ (∀ x ∈ zbd u, x.oneCell' = true) ∧ ∀ W' : World, (∀ j, w.heap.size ≤ j → j < w'.heap.size → W'.heap[j]? = w'.heap[j]?) → EV W' D d (val7 u) x) ∧ Below w.heap.size w w'
def XI (w : World) (tO : Obj) (F : World → Prop) (n : Nat) (xO : Obj) (W : World) : Prop :=
 W.heap[w.heap.size]? = some tO ∧ W.heap[w.heap.size + 1]? = some ownX0 ∧ W.heap[w.heap.size + 2]? = some xO ∧ Below w.heap.size w W ∧ (w.heap.size + 3 ≤ n ∧ n ≤ W.heap.size) ∧ ∀ W' : World, (∀ j, w.heap.size + 3 ≤ j → j < n → W'.heap[j]? = W.heap[j]?) → F W'
theorem XI.step {w W W2 : World} {tO xO xO2 : Obj} {F : World → Prop} {n : Nat} (h : XI w tO F n xO W) (hx : W2.heap[w.heap.size + 2]? = some xO2) (hb : Below w.heap.size w W2) (hs : n ≤ W2.heap.size) (hk : ∀ j, j < n → j ≠ w.heap.size + 2 → W2.heap[j]? = W.heap[j]?) : XI w tO F n xO2 W2 := by
 obtain ⟨h1, h2, h3, h4, ⟨h5, h6⟩, h7⟩ := h
 exact ⟨(hk _ (by omega) (by omega)).trans h1, (hk _ (by omega) (by omega)).trans h2, hx, hb, ⟨h5, hs⟩, fun W' hW' => h7 W' fun j j1 j2 => (hW' j j1 j2).trans (hk j j2 (by omega))⟩
theorem XI.more {w W : World} {tO xO : Obj} {F G : World → Prop} {n : Nat} (h : XI w tO F n xO W) (hg : ∀ W' : World, (∀ j, n ≤ j → j < W.heap.size → W'.heap[j]? = W.heap[j]?) → G W') : XI w tO (fun W' => F W' ∧ G W') W.heap.size xO W := by
 obtain ⟨h1, h2, h3, h4, ⟨h5, h6⟩, h7⟩ := h
 exact ⟨h1, h2, h3, h4, ⟨Nat.le_trans h5 h6, Nat.le_refl _⟩, fun W' hW' => ⟨h7 W' fun j j1 j2 => hW' j j1 (by omega), hg W' fun j j1 j2 => hW' j (by omega) j2⟩⟩
section
variable {w wr : World} {F : World → Prop} {n : Nat} {A K N : Int} {S : ByteArray} {q : Option Addr} {k cq : Nat} {vn vp v : Value} {pt pn pp : Option Addr} {nt ct nn cn np cp : Nat}
theorem round_ty {D : Nat} {ts : List (Ty D)} (hX : XI w (zii A K N S (.slice pt nt ct) (.slice pn nn cn) (.slice pp np cp)) F n (zii A K N S (.slice q k cq) vn vp) wr) (HO : OTys n wr (.slice q k cq) D (ts.take k)) (hlt : k < ts.length) (hl : ts.length ≤ 1000000)
  (hC : ∀ W, Below w.heap.size w W → Calls Tryz.prog 41 #[v] W fun e w' => (∃ u : V5, e = .returned (val5 u) ∧ (∀ x ∈ zdc u, x.oneCell' = true) ∧ ∀ W' : World, (∀ j, W.heap.size ≤ j → j < w'.heap.size → W'.heap[j]? = w'.heap[j]?) → TyValD W' D (val5 u) ts[k]) ∧ Below W.heap.size W w') :
  Calls Tryz.prog 41 #[v] wr.drew fun e w1 => ∃ (K2 : Int) (S2 : ByteArray) (rn re rp : Option Addr) (m1 y1 m2 y2 m3 y3 : Nat), e = .returned (.agg #[.int .i64 K2, .string S2, .slice rn m1 y1, .slice re m2 y2, .slice rp m3 y3]) ∧
   w1.cell? ⟨w.heap.size + 1 + 1, 4, none⟩ = some (.slice q k cq) ∧ w1.cell? ⟨w.heap.size, 4, none⟩ = some (.slice pt nt ct) ∧ (w1.alloc (ownO K2 S2 (.slice rn m1 y1) (.slice re m2 y2) (.slice rp m3 y3))).cell? ⟨w.heap.size + 1 + 1, 4, none⟩ = some (.slice q k cq) ∧
   ∃ (g' cap : Nat) (W4 : World), (Builtin.append_ #[24, 24] 24 #[.slice q k cq, .slice (some ⟨w1.heap.size, 0, none⟩) 1 1]).run Tryz.prog (w1.alloc (ownO K2 S2 (.slice rn m1 y1) (.slice re m2 y2) (.slice rp m3 y3))) = .ok (.slice (some ⟨g', 0, none⟩) (k + 1) cap) W4 ∧
    W4.cell? ⟨w.heap.size + 1 + 1, 4, none⟩ = some (.slice q k cq) ∧ W4.frozen? ⟨w.heap.size + 1 + 1, 4, none⟩ = false ∧
    OTys n (W4.setCell ⟨w.heap.size + 1 + 1, 4, none⟩ (.slice (some ⟨g', 0, none⟩) (k + 1) cap)) (.slice (some ⟨g', 0, none⟩) (k + 1) cap) D (ts.take (k + 1)) ∧
    XI w (zii A K N S (.slice pt nt ct) (.slice pn nn cn) (.slice pp np cp)) F n (zii A K N S (.slice (some ⟨g', 0, none⟩) (k + 1) cap) vn vp) (W4.setCell ⟨w.heap.size + 1 + 1, 4, none⟩ (.slice (some ⟨g', 0, none⟩) (k + 1) cap)) := by
 obtain ⟨i1, i2, i3, hb, ⟨i5, i6⟩, i7⟩ := id hX
 refine (hC wr.drew (zad hb)).mono ?_
 rintro e w1 ⟨⟨u, rfl, hone, hfr⟩, hb1⟩
 have hb1' : Below wr.heap.size wr w1 := zch hb1
 have hs1 := hb1'.size
 obtain ⟨K2, S2, rn, re, rp, m1, y1, m2, y2, m3, y3, rfl⟩ := zlt (hfr w1 fun _ _ _ => rfl)
 have hx1 := (hb1'.block _ (by omega)).trans i3
 have ht1 := (hb1'.block _ (by omega)).trans i1
 obtain ⟨g', cap, W4, E, hot, hs4, hk4, hb4⟩ := ziz HO i6 hb1' hfr hone (by rw [List.length_take]; omega)
 rw [List.length_take, Nat.min_eq_left (by omega)] at E hot
 have hown : ∀ j, (Value.slice q k cq).ownBlock = some j → n ≤ j := fun j ej => by
  obtain ⟨es', _, ho, _⟩ := HO
  exact (ho.lt j ej).1
 have hx4 : W4.heap[w.heap.size + 2]? = some (zii A K N S (.slice q k cq) vn vp) := (hk4 _ (by omega) (fun ej => by have := hown _ ej.symm; omega)).trans hx1
 refine ⟨K2, S2, rn, re, rp, m1, y1, m2, y2, m3, y3, rfl, by rw [Lib.cell_of_heap hx1]; rfl, by rw [Lib.cell_of_heap ht1]; rfl, ?_, g', cap, W4, E, by rw [Lib.cell_of_heap hx4]; rfl, Lib.frozen_of_heap hx4 4, ?_, hX.step ?_ ?_ ?_ ?_⟩
 ·rw [Lib.cell_of_heap ((zdi w1 _ _ (by omega)).trans hx1)]; rfl
 ·rw [zdd hlt]
  exact hot.move (by simp) fun j hj => za8 (by omega)
 ·rw [zik hx4]; rfl
 ·exact (hb.trans (hb4.mono (by omega))).setCell (p := ⟨w.heap.size + 1 + 1, 4, none⟩) (by show w.heap.size ≤ w.heap.size + 1 + 1; omega) _
 ·simp; omega
 ·intro j hj hne
  rw [za8 hne, hk4 j (by omega) (fun ej => by have := hown _ ej.symm; omega), hb1'.block j (by omega)]
theorem OExs.move {B : Nat} {W W' : World} {v : Value} {D d : Nat} {ts : List (Ex D d)} (h : OExs B W v D d ts) (hs : W'.heap.size = W.heap.size) (hk : ∀ j, B ≤ j → W'.heap[j]? = W.heap[j]?) : OExs B W' v D d ts := by
 obtain ⟨es, hl, ho, he⟩ := h
 refine ⟨es, hl, ⟨ho.1, ?_⟩, fun j u t h1 h2 W2 hW2 => he j u t h1 h2 W2 fun i h3 h4 h5 => ?_⟩
 ·rcases ho.2 with h0 | ⟨g, cap, cur, e, hb, hg, r⟩
  ·exact .inl h0
  ·exact .inr ⟨g, cap, cur, e, hb, (hk g hb).trans hg, r⟩
 ·rw [hW2 i h3 (by omega) h5, hk i h3]
theorem round_ex {D d : Nat} {vt : Value} {xs : List (Ex D d)} (hX : XI w (zii A K N S (.slice pt nt ct) (.slice pn nn cn) (.slice pp np cp)) F n (zii A K N S vt vn (.slice q k cq)) wr) (HO : OExs n wr (.slice q k cq) D d (xs.take k)) (hlt : k < xs.length) (hl : xs.length ≤ 1000000)
  (hC : ∀ W, Below w.heap.size w W → Calls Tryz.prog 8 #[v] W fun e w' => (∃ u : V7, e = .returned (val7 u) ∧ (∀ x ∈ zbd u, x.oneCell' = true) ∧ ∀ W' : World, (∀ j, W.heap.size ≤ j → j < w'.heap.size → W'.heap[j]? = w'.heap[j]?) → EV W' D d (val7 u) xs[k]) ∧ Below W.heap.size W w') :
  Calls Tryz.prog 8 #[v] wr.drew fun e w1 => ∃ (A2 K2 N2 : Int) (S2 : ByteArray) (rn re rp : Option Addr) (m1 y1 m2 y2 m3 y3 : Nat), e = .returned (.agg #[.int .i64 A2, .int .i64 K2, .int .i64 N2, .string S2, .slice rn m1 y1, .slice re m2 y2, .slice rp m3 y3]) ∧
   w1.cell? ⟨w.heap.size + 1 + 1, 6, none⟩ = some (.slice q k cq) ∧ w1.cell? ⟨w.heap.size, 6, none⟩ = some (.slice pp np cp) ∧ (w1.alloc (zii A2 K2 N2 S2 (.slice rn m1 y1) (.slice re m2 y2) (.slice rp m3 y3))).cell? ⟨w.heap.size + 1 + 1, 6, none⟩ = some (.slice q k cq) ∧
   ∃ (g' cap : Nat) (W4 : World), (Builtin.append_ #[26, 26] 26 #[.slice q k cq, .slice (some ⟨w1.heap.size, 0, none⟩) 1 1]).run Tryz.prog (w1.alloc (zii A2 K2 N2 S2 (.slice rn m1 y1) (.slice re m2 y2) (.slice rp m3 y3))) = .ok (.slice (some ⟨g', 0, none⟩) (k + 1) cap) W4 ∧
    W4.cell? ⟨w.heap.size + 1 + 1, 6, none⟩ = some (.slice q k cq) ∧ W4.frozen? ⟨w.heap.size + 1 + 1, 6, none⟩ = false ∧
    OExs n (W4.setCell ⟨w.heap.size + 1 + 1, 6, none⟩ (.slice (some ⟨g', 0, none⟩) (k + 1) cap)) (.slice (some ⟨g', 0, none⟩) (k + 1) cap) D d (xs.take (k + 1)) ∧
    XI w (zii A K N S (.slice pt nt ct) (.slice pn nn cn) (.slice pp np cp)) F n (zii A K N S vt vn (.slice (some ⟨g', 0, none⟩) (k + 1) cap)) (W4.setCell ⟨w.heap.size + 1 + 1, 6, none⟩ (.slice (some ⟨g', 0, none⟩) (k + 1) cap)) := by
 obtain ⟨i1, i2, i3, hb, ⟨i5, i6⟩, i7⟩ := id hX
 refine (hC wr.drew (zad hb)).mono ?_
 rintro e w1 ⟨⟨u, rfl, hone, hfr⟩, hb1⟩
 have hb1' : Below wr.heap.size wr w1 := zch hb1
 have hs1 := hb1'.size
 obtain ⟨A2, K2, N2, S2, rn, re, rp, m1, y1, m2, y2, m3, y3, rfl⟩ := val7_form (hfr w1 fun _ _ _ => rfl).1
 have hx1 := (hb1'.block _ (by omega)).trans i3
 have ht1 := (hb1'.block _ (by omega)).trans i1
 obtain ⟨g', cap, W4, E, hot, hs4, hk4, hb4⟩ := append_exs HO i6 hb1' hfr hone (by rw [List.length_take]; omega)
 rw [List.length_take, Nat.min_eq_left (by omega)] at E hot
 have hown : ∀ j, (Value.slice q k cq).ownBlock = some j → n ≤ j := fun j ej => by
  obtain ⟨es', _, ho, _⟩ := HO
  exact (ho.lt j ej).1
 have hx4 : W4.heap[w.heap.size + 2]? = some (zii A K N S vt vn (.slice q k cq)) := (hk4 _ (by omega) (fun ej => by have := hown _ ej.symm; omega)).trans hx1
 refine ⟨A2, K2, N2, S2, rn, re, rp, m1, y1, m2, y2, m3, y3, rfl, by rw [Lib.cell_of_heap hx1]; rfl, by rw [Lib.cell_of_heap ht1]; rfl, ?_, g', cap, W4, E, by rw [Lib.cell_of_heap hx4]; rfl, Lib.frozen_of_heap hx4 6, ?_, hX.step ?_ ?_ ?_ ?_⟩
 ·rw [Lib.cell_of_heap ((zdi w1 _ _ (by omega)).trans hx1)]; rfl
 ·rw [zdd hlt]
  exact hot.move (by simp) fun j hj => za8 (by omega)
 ·rw [zik hx4]; rfl
 ·exact (hb.trans (hb4.mono (by omega))).setCell (p := ⟨w.heap.size + 1 + 1, 6, none⟩) (by show w.heap.size ≤ w.heap.size + 1 + 1; omega) _
 ·simp; omega
 ·intro j hj hne
  rw [za8 hne, hk4 j (by omega) (fun ej => by have := hown _ ej.symm; omega), hb1'.block j (by omega)]
end
theorem zku {D d : Nat} {xs : List (Ex D d)} {x : Ex D d} (h : x ∈ xs) : szX D d x ≤ ze9 D d xs := by
 induction xs with
 | nil => cases h
 | cons y r ih =>
  unfold ze9 at ih ⊢
  rw [List.map_cons, List.sum_cons]
  rcases List.mem_cons.1 h with rfl | h
  ·omega
  ·have := ih h; omega
theorem zl7 : ∀ {D d : Nat} (xs : List (Ex D d)), xs.length ≤ ze9 D d xs
 | _, 0, [] => by simp
 | _, 0, x :: _ => nomatch x
 | D, d + 1, xs => by
  induction xs with
  | nil => simp
  | cons y r ih =>
   unfold ze9 at ih ⊢
   rw [List.map_cons, List.sum_cons, List.length_cons]
   have : 1 ≤ szX D (d + 1) y := by rw [szX]; omega
   omega
theorem ownx_enter (args : Array Value) (w : World) : Sem.run Tryz.prog (callFunc 8 args) w = .ok (.enter 8 args) w := by kernel_rfl
theorem three_boxes (w : World) (tO xO : Obj) : XI w tO (fun _ => True) (w.heap.size + 3) xO (((w.alloc tO).alloc ownX0).alloc xO) := by
 refine ⟨?_, ?_, ?_, (((Below.refl _ _).alloc (Nat.le_refl _) _).alloc (by simp) _).alloc (by simp; omega) _, ⟨Nat.le_refl _, by simp⟩, fun _ _ => trivial⟩
 ·rw [zdi _ _ _ (by simp; omega), zdi _ _ _ (by simp)]; exact zaj w tO
 ·rw [zdi _ _ _ (by simp)]; simpa using zaj (w.alloc tO) ownX0
 ·simpa using zaj ((w.alloc tO).alloc ownX0) xO
theorem names_done {w Wy Wn : World} {A K N : Int} {S : ByteArray} {tO : Obj} {G : World → Prop} {v : Value} (h : XI w tO (fun _ => True) (w.heap.size + 3) (zii A K N S (.slice none 0 0) (.slice none 0 0) (.slice none 0 0)) Wy) (bn : Below Wy.heap.size Wy Wn) (FN : ∀ W' : World, (∀ j, Wy.heap.size ≤ j → j < Wn.heap.size → W'.heap[j]? = Wn.heap[j]?) → G W') :
  XI w tO (fun W' => True ∧ G W') (Wn.setCell ⟨w.heap.size + 1 + 1, 5, none⟩ v).heap.size (zii A K N S (.slice none 0 0) v (.slice none 0 0)) (Wn.setCell ⟨w.heap.size + 1 + 1, 5, none⟩ v) := by
 obtain ⟨i1, i2, i3, hb, ⟨i5, i6⟩, i7⟩ := id h
 have sn := bn.size
 refine (h.step (xO2 := zii A K N S (.slice none 0 0) v (.slice none 0 0)) ?_ ?_ ?_ ?_).more fun W' hW' => FN W' fun j j1 j2 => ?_
 ·rw [zik ((bn.block _ (by omega)).trans i3)]; rfl
 ·exact (hb.trans (bn.mono (by omega))).setCell (p := ⟨w.heap.size + 1 + 1, 5, none⟩) (by show w.heap.size ≤ w.heap.size + 1 + 1; omega) _
 ·simp; omega
 ·intro j hj hne
  rw [za8 hne, bn.block j (by omega)]
 ·rw [hW' j (by omega) (by simpa using j2), za8 (by omega)]
theorem own_done {w wr : World} {tO xO : Obj} {F : World → Prop} {v0 v1 v2 v3 v4 v5 v6 : Value} (h : XI w tO F wr.heap.size xO wr) :
  let Wf := ((((((wr.setCell ⟨w.heap.size + 1, 0, none⟩ v0).setCell ⟨w.heap.size + 1, 1, none⟩ v1).setCell ⟨w.heap.size + 1, 2, none⟩ v2).setCell ⟨w.heap.size + 1, 3, none⟩ v3).setCell ⟨w.heap.size + 1, 4, none⟩ v4).setCell ⟨w.heap.size + 1, 5, none⟩ v5).setCell ⟨w.heap.size + 1, 6, none⟩ v6
  Wf.heap[w.heap.size + 1]? = some (.cells #[v0, v1, v2, v3, v4, v5, v6] 28) ∧ Below w.heap.size w Wf ∧ ∀ W' : World, (∀ j, w.heap.size ≤ j → j < Wf.heap.size → W'.heap[j]? = Wf.heap[j]?) → F W' := by
 obtain ⟨i1, i2, i3, hb, ⟨i5, i6⟩, i7⟩ := h
 intro Wf
 have hle : w.heap.size ≤ w.heap.size + 1 := by omega
 have kF : ∀ j, j ≠ w.heap.size + 1 → Wf.heap[j]? = wr.heap[j]? := fun j hj => by show (World.setCell _ _ _).heap[j]? = _; rw [za8 hj, za8 hj, za8 hj, za8 hj, za8 hj, za8 hj, za8 hj]
 have sF : Wf.heap.size = wr.heap.size := by show (World.setCell _ _ _).heap.size = _; simp
 refine ⟨?_, ?_, fun W' hW' => i7 W' fun j j1 j2 => ?_⟩
 ·exact zik (i := 6) (zik (i := 5) (zik (i := 4) (zik (i := 3) (zik (i := 2) (zik (i := 1) (zik (i := 0) i2 v0) v1) v2) v3) v4) v5) v6
 ·exact ((((((hb.setCell (p := ⟨w.heap.size + 1, 0, none⟩) hle _).setCell (p := ⟨w.heap.size + 1, 1, none⟩) hle _).setCell (p := ⟨w.heap.size + 1, 2, none⟩) hle _).setCell (p := ⟨w.heap.size + 1, 3, none⟩) hle _).setCell (p := ⟨w.heap.size + 1, 4, none⟩) hle _).setCell (p := ⟨w.heap.size + 1, 5, none⟩) hle _).setCell (p := ⟨w.heap.size + 1, 6, none⟩) hle _
 ·rw [hW' j (by omega) (by omega), kF j (by omega)]
theorem ownx_step (D d : Nat) (IH : OwnXAt D d) : OwnXAt D (d + 1) := fun t v w hv hz => by
 obtain ⟨pt, pn, pp, ct, cn, cp, rfl, r1, r2, r3⟩ := hv
 obtain ⟨A, K, N, S, ts, ns, xs⟩ := t
 have hz' : 1 + S.length + ns.length + zgs ns + szL D ts + ze9 D d xs ≤ 1000000 := hz
 dsimp only [xAt, zfn, xN, xS, xT, xNs, xPs] at *
 have hlt := Nat.le_trans (zcr _ ts) (zd5 _ ts)
 have hlx := zl7 xs
 have HTy : Hid (∀ k (hk : k < ts.length), ∃ u, zhu w pt k u ∧ ∀ W, Below w.heap.size w W → Calls Tryz.prog 41 #[u] W fun e w' => (∃ u : V5, e = .returned (val5 u) ∧ (∀ x ∈ zdc u, x.oneCell' = true) ∧ ∀ W' : World, (∀ j, W.heap.size ≤ j → j < w'.heap.size → W'.heap[j]? = w'.heap[j]?) → TyValD W' D (val5 u) ts[k]) ∧ Below W.heap.size W w') := fun k hk => by
  obtain ⟨u, hu, hv⟩ := r1.at k hk
  have hk2 := ze6 (List.getElem_mem hk)
  exact ⟨u, hu, fun W hW => own_any D _ u W (TyValD.below hW hv) (by omega)⟩
 have HP : Hid (∀ k (hk : k < xs.length), ∃ u, ExCell w pp k u ∧ ∀ W, Below w.heap.size w W → Calls Tryz.prog 8 #[u] W fun e w' => (∃ u : V7, e = .returned (val7 u) ∧ (∀ x ∈ zbd u, x.oneCell' = true) ∧ ∀ W' : World, (∀ j, W.heap.size ≤ j → j < w'.heap.size → W'.heap[j]? = w'.heap[j]?) → EV W' D d (val7 u) xs[k]) ∧ Below W.heap.size W w') := fun k hk => by
  obtain ⟨u, hu, hv⟩ := r3.at k hk
  have hk2 := zku (List.getElem_mem hk)
  exact ⟨u, hu, fun W hW => IH _ u W (ExValD.below hW hv) (by omega)⟩
 have HNm := za3 r2
 clear r1 r2 r3 IH hz
 go_enter Tryz.func8, Tryz.ntmps8
 go_upto_region 2 with fail
 go_cut [] (fun wx => ∃ Wy : World, Wy = wx ∧ Hid (XI w (zii A K N ⟨S.toArray⟩ (.slice pt ts.length ct) (.slice pn ns.length cn) (.slice pp xs.length cp)) (fun _ => True) (w.heap.size + 3) (zii A K N ⟨S.toArray⟩ (.slice none 0 0) (.slice none 0 0) (.slice none 0 0)) Wy))
 case first =>
  go_wp2
  go_meet
  case rel => exact ⟨_, rfl, three_boxes w _ _⟩
 case rest =>
  obtain ⟨Wy, rfl, HX⟩ := hcut
  go_upto_region 3 with fail
  go_cut [] (fun wx => ∃ (p2 : Option Addr) (c2 : Nat) (Wz : World), Wz = wx ∧ Hid (XI w (zii A K N ⟨S.toArray⟩ (.slice pt ts.length ct) (.slice pn ns.length cn) (.slice pp xs.length cp)) (fun W' => True ∧ SRow W' (.slice p2 ns.length c2) ns) Wz.heap.size (zii A K N ⟨S.toArray⟩ (.slice none 0 0) (.slice p2 ns.length c2) (.slice none 0 0)) Wz))
  case first =>
   obtain ⟨i1, i2, i3, hb, ⟨i5, i6⟩, i7⟩ := za0 HX
   obtain ⟨p2, c2, Wn, E1, bn, FN⟩ := zkn ((za0 HNm).below hb) (by omega)
   have ND := za3 (names_done (v := .slice p2 ns.length c2) (za0 HX) bn FN)
   have xn : Wn.heap[w.heap.size + 2]? = _ := (bn.block _ (by omega)).trans i3
   have y5 : Wy.cell? ⟨w.heap.size + 1 + 1, 5, none⟩ = some (.slice none 0 0) := by rw [Lib.cell_of_heap i3]; rfl
   have t5 : Wy.cell? ⟨w.heap.size, 5, none⟩ = some (.slice pn ns.length cn) := by rw [Lib.cell_of_heap i1]; rfl
   have n5 : Wn.cell? ⟨w.heap.size + 1 + 1, 5, none⟩ = some (.slice none 0 0) := by rw [Lib.cell_of_heap xn]; rfl
   have f5 : Wn.frozen? ⟨w.heap.size + 1 + 1, 5, none⟩ = false := Lib.frozen_of_heap xn 5
   have HE := za3 E1
   clear i1 i2 i3 hb i5 i6 i7 E1 bn FN xn
   go_wp2_with (at_builtin; refine za4 rfl (.tmp 19) (.tmp 21) 25 rfl rfl rfl (za0 HE) ?_; clear HE)
   go_meet
   case rel => exact ⟨p2, c2, _, rfl, za0 ND⟩
  case rest =>
   obtain ⟨p2, c2, W5, rfl, HX5⟩ := hcut
   clear HX
   go_upto_block 0 with fail
   go_cut [] (fun wx => ∃ (p4 : Option Addr) (c4 : Nat) (Wz : World), Wz = wx ∧ Hid (XI w (zii A K N ⟨S.toArray⟩ (.slice pt ts.length ct) (.slice pn ns.length cn) (.slice pp xs.length cp)) (fun W' => (True ∧ SRow W' (.slice p2 ns.length c2) ns) ∧ TyRow W' D (.slice p4 ts.length c4) ts) Wz.heap.size (zii A K N ⟨S.toArray⟩ (.slice p4 ts.length c4) (.slice p2 ns.length c2) (.slice none 0 0)) Wz))
   case first =>
    go_wp2_with fail
    go_loopg [4] ts.length (fun gk i wr => ∃ (k : Nat) (q : Option Addr) (cq : Nat), i = .int .i64 k ∧ k + gk = ts.length ∧ Hid (OTys W5.heap.size wr (.slice q k cq) D (ts.take k)) ∧ Hid (XI w (zii A K N ⟨S.toArray⟩ (.slice pt ts.length ct) (.slice pn ns.length cn) (.slice pp xs.length cp)) (fun W' => True ∧ SRow W' (.slice p2 ns.length c2) ns) W5.heap.size (zii A K N ⟨S.toArray⟩ (.slice q k cq) (.slice p2 ns.length c2) (.slice none 0 0)) wr))
    case atStart => exact ⟨0, none, 0, rfl, by omega, OTys.nil _ _ _, za0 HX5⟩
    case round =>
     obtain ⟨k, q, cq, rfl, hk, HO, HXr⟩ := hrel
     obtain ⟨i1, i2, i3, hb, ⟨i5, i6⟩, i7⟩ := za0 HXr
     have c4 : wr.cell? ⟨w.heap.size, 4, none⟩ = some (.slice pt ts.length ct) := by rw [Lib.cell_of_heap i1]; rfl
     have x4 : wr.cell? ⟨w.heap.size + 1 + 1, 4, none⟩ = some (.slice q k cq) := by rw [Lib.cell_of_heap i3]; rfl
     have HB := za3 hb
     clear i1 i2 i3 i5 i6 i7 hb
     by_cases hlt2 : k < ts.length
     ·obtain ⟨u, ⟨g, o, K', S', qn, qe, q3, nn, d1, ne, d2, n3, d3, rfl, rfl, a0, a1, a2, a3, a4⟩, HI⟩ := za0 HTy k hlt2
      have b0 := ((za0 HB).cell (p := ⟨g, _, none⟩) (za2 a0)).trans a0
      have b1 := ((za0 HB).cell (p := ⟨g, _, none⟩) (za2 a1)).trans a1
      have b2 := ((za0 HB).cell (p := ⟨g, _, none⟩) (za2 a2)).trans a2
      have b3 := ((za0 HB).cell (p := ⟨g, _, none⟩) (za2 a3)).trans a3
      have b4 := ((za0 HB).cell (p := ⟨g, _, none⟩) (za2 a4)).trans a4
      have hlt' : (k : Int) < (ts.length : Int) := by omega
      have CL := za3 (round_ty (za0 HXr) (za0 HO) hlt2 (by omega) HI)
      clear HI a0 a1 a2 a3 a4 HO HXr HB HTy HP HNm HX5
      go_wp2_with fail
      go_region_law (first
       | (refine zde (u := .agg #[.int .i64 K', .string S', .slice qn nn d1, .slice qe ne d2, .slice q3 n3 d3]) rfl 41 (.tmp 37) 53 rfl (by simp [Act.eval]) zli ?_; refine (za0 CL).mono ?_; rintro e w1 ⟨K2, S2, rn, re, rp, m1, y1, m2, y2, m3, y3, rfl, e1, e2, e3, g', cap, W4, E, e4, e5, e6, e7⟩; refine ⟨_, rfl, ?_⟩)
       | refine zc6 rfl (.tmp 32) (.tmp 39) 24 rfl (by simp [Act.eval]) (by simp [Act.eval]) E ?_)
      all_goals
       go_wp2_with fail
       go_roundg (ts.length - (k + 1))
       case measure => omega
       case rel => exact ⟨k + 1, _, _, by go_num, by omega, e6, e7⟩
     ·obtain rfl : k = ts.length := by omega
      have HM := za3 ((za0 HXr).more (fun W' hW' => (za0 HO).rows W' hW'))
      rw [List.take_length] at HM
      have hlt' : ¬ (ts.length : Int) < (ts.length : Int) := by omega
      clear HXr HO HB
      go_wp2_with fail
      go_meet
      case rel => exact ⟨q, cq, _, rfl, za0 HM⟩
   case rest =>
    obtain ⟨p4, c4, W6, rfl, HX6⟩ := hcut
    clear HX5 HTy
    go_wp2_with fail
    go_loopg [5] xs.length (fun gk i wr => ∃ (k : Nat) (q : Option Addr) (cq : Nat), i = .int .i64 k ∧ k + gk = xs.length ∧ Hid (OExs W6.heap.size wr (.slice q k cq) D d (xs.take k)) ∧ Hid (XI w (zii A K N ⟨S.toArray⟩ (.slice pt ts.length ct) (.slice pn ns.length cn) (.slice pp xs.length cp)) (fun W' => (True ∧ SRow W' (.slice p2 ns.length c2) ns) ∧ TyRow W' D (.slice p4 ts.length c4) ts) W6.heap.size (zii A K N ⟨S.toArray⟩ (.slice p4 ts.length c4) (.slice p2 ns.length c2) (.slice q k cq)) wr))
    case atStart => exact ⟨0, none, 0, rfl, by omega, OExs.nil _ _ _ _, za0 HX6⟩
    case round =>
     obtain ⟨k, q, cq, rfl, hk, HO, HXr⟩ := hrel
     obtain ⟨i1, i2, i3, hb, ⟨i5, i6⟩, i7⟩ := za0 HXr
     have c6 : wr.cell? ⟨w.heap.size, 6, none⟩ = some (.slice pp xs.length cp) := by rw [Lib.cell_of_heap i1]; rfl
     have x6 : wr.cell? ⟨w.heap.size + 1 + 1, 6, none⟩ = some (.slice q k cq) := by rw [Lib.cell_of_heap i3]; rfl
     have HB := za3 hb
     by_cases hlt2 : k < xs.length
     ·clear i1 i2 i3 i5 i6 i7 hb
      obtain ⟨u, ⟨g, o, A', K', N', S', qn, qe, q3, nn, d1, ne, d2, n3, d3, rfl, rfl, a0, a1, a2, a3, a4, a5, a6⟩, HI⟩ := za0 HP k hlt2
      have b0 := ((za0 HB).cell (p := ⟨g, _, none⟩) (za2 a0)).trans a0
      have b1 := ((za0 HB).cell (p := ⟨g, _, none⟩) (za2 a1)).trans a1
      have b2 := ((za0 HB).cell (p := ⟨g, _, none⟩) (za2 a2)).trans a2
      have b3 := ((za0 HB).cell (p := ⟨g, _, none⟩) (za2 a3)).trans a3
      have b4 := ((za0 HB).cell (p := ⟨g, _, none⟩) (za2 a4)).trans a4
      have b5 := ((za0 HB).cell (p := ⟨g, _, none⟩) (za2 a5)).trans a5
      have b6 := ((za0 HB).cell (p := ⟨g, _, none⟩) (za2 a6)).trans a6
      have hlt' : (k : Int) < (xs.length : Int) := by omega
      have CL := za3 (round_ex (za0 HXr) (za0 HO) hlt2 (by omega) HI)
      clear HI a0 a1 a2 a3 a4 a5 a6 HO HXr HB HP HNm HX6
      go_wp2_with fail
      go_region_law (first
       | (refine zde (u := .agg #[.int .i64 A', .int .i64 K', .int .i64 N', .string S', .slice qn nn d1, .slice qe ne d2, .slice q3 n3 d3]) rfl 8 (.tmp 55) 28 rfl (by simp [Act.eval]) ownx_enter ?_; refine (za0 CL).mono ?_; rintro e w1 ⟨A2, K2, N2, S2, rn, re, rp, m1, y1, m2, y2, m3, y3, rfl, e1, e2, e3, g', cap, W4, E, e4, e5, e6, e7⟩; refine ⟨_, rfl, ?_⟩)
       | refine zc6 rfl (.tmp 50) (.tmp 57) 26 rfl (by simp [Act.eval]) (by simp [Act.eval]) E ?_)
      all_goals
       go_wp2_with fail
       go_roundg (xs.length - (k + 1))
       case measure => omega
       case rel => exact ⟨k + 1, _, _, by go_num, by omega, e6, e7⟩
     ·obtain rfl : k = xs.length := by omega
      have hlt' : ¬ (xs.length : Int) < (xs.length : Int) := by omega
      have hO := za3 ((za0 HXr).more (fun W' hW' => And.intro ((za0 HO).rows W' hW') ((za0 HO).caps W' hW')))
      rw [List.take_length] at hO
      have CX : wr.cell? ⟨w.heap.size + 1 + 1, 0, none⟩ = some (.int .i64 A) ∧ wr.cell? ⟨w.heap.size + 1 + 1, 1, none⟩ = some (.int .i64 K) ∧ wr.cell? ⟨w.heap.size + 1 + 1, 2, none⟩ = some (.int .i64 N) ∧ wr.cell? ⟨w.heap.size + 1 + 1, 3, none⟩ = some (.string ⟨S.toArray⟩) ∧ wr.cell? ⟨w.heap.size + 1 + 1, 4, none⟩ = some (.slice p4 ts.length c4) ∧ wr.cell? ⟨w.heap.size + 1 + 1, 5, none⟩ = some (.slice p2 ns.length c2) :=
       ⟨by rw [Lib.cell_of_heap i3]; rfl, by rw [Lib.cell_of_heap i3]; rfl, by rw [Lib.cell_of_heap i3]; rfl, by rw [Lib.cell_of_heap i3]; rfl, by rw [Lib.cell_of_heap i3]; rfl, by rw [Lib.cell_of_heap i3]; rfl⟩
      obtain ⟨k0, k1, k2, k3, k4, k5⟩ := CX
      have CZ : wr.cell? ⟨w.heap.size + 1, 0, none⟩ = some (.int .i64 0) ∧ wr.cell? ⟨w.heap.size + 1, 1, none⟩ = some (.int .i64 0) ∧ wr.cell? ⟨w.heap.size + 1, 2, none⟩ = some (.int .i64 0) ∧ wr.cell? ⟨w.heap.size + 1, 3, none⟩ = some (.string ⟨#[]⟩) ∧ wr.cell? ⟨w.heap.size + 1, 4, none⟩ = some (.slice none 0 0) ∧ wr.cell? ⟨w.heap.size + 1, 5, none⟩ = some (.slice none 0 0) ∧ wr.cell? ⟨w.heap.size + 1, 6, none⟩ = some (.slice none 0 0) :=
       ⟨by rw [Lib.cell_of_heap i2]; rfl, by rw [Lib.cell_of_heap i2]; rfl, by rw [Lib.cell_of_heap i2]; rfl, by rw [Lib.cell_of_heap i2]; rfl, by rw [Lib.cell_of_heap i2]; rfl, by rw [Lib.cell_of_heap i2]; rfl, by rw [Lib.cell_of_heap i2]; rfl⟩
      obtain ⟨z0, z1, z2, z3, z4, z5, z6⟩ := CZ
      have fz := Lib.frozen_of_heap i2
      have DN := za3 (own_done (v0 := .int .i64 A) (v1 := .int .i64 K) (v2 := .int .i64 N) (v3 := .string ⟨S.toArray⟩) (v4 := .slice p4 ts.length c4) (v5 := .slice p2 ns.length c2) (v6 := .slice q xs.length cq) (za0 hO))
      clear i1 i2 i3 i5 i6 i7 hb HO HXr HB HP HNm HX6 hO
      go_wp2_with fail
      obtain ⟨Wf, hWf⟩ : ∃ Wf : World, Wf = ((((((wr.setCell ⟨w.heap.size + 1, 0, none⟩ (.int .i64 A)).setCell ⟨w.heap.size + 1, 1, none⟩ (.int .i64 K)).setCell ⟨w.heap.size + 1, 2, none⟩ (.int .i64 N)).setCell ⟨w.heap.size + 1, 3, none⟩ (.string ⟨S.toArray⟩)).setCell ⟨w.heap.size + 1, 4, none⟩ (.slice p4 ts.length c4)).setCell ⟨w.heap.size + 1, 5, none⟩ (.slice p2 ns.length c2)).setCell ⟨w.heap.size + 1, 6, none⟩ (.slice q xs.length cq) := ⟨_, rfl⟩
      have DN2 := za0 DN
      rw [← hWf] at DN2 ⊢
      obtain ⟨hF, bF, rF⟩ := DN2
      have f0 : Wf.cell? ⟨w.heap.size + 1, 0, none⟩ = some (.int .i64 A) := by rw [Lib.cell_of_heap hF]; rfl
      have f1 : Wf.cell? ⟨w.heap.size + 1, 1, none⟩ = some (.int .i64 K) := by rw [Lib.cell_of_heap hF]; rfl
      have f2 : Wf.cell? ⟨w.heap.size + 1, 2, none⟩ = some (.int .i64 N) := by rw [Lib.cell_of_heap hF]; rfl
      have f3 : Wf.cell? ⟨w.heap.size + 1, 3, none⟩ = some (.string ⟨S.toArray⟩) := by rw [Lib.cell_of_heap hF]; rfl
      have f4 : Wf.cell? ⟨w.heap.size + 1, 4, none⟩ = some (.slice p4 ts.length c4) := by rw [Lib.cell_of_heap hF]; rfl
      have f5 : Wf.cell? ⟨w.heap.size + 1, 5, none⟩ = some (.slice p2 ns.length c2) := by rw [Lib.cell_of_heap hF]; rfl
      have f6 : Wf.cell? ⟨w.heap.size + 1, 6, none⟩ = some (.slice q xs.length cq) := by rw [Lib.cell_of_heap hF]; rfl
      refine bodyPost_ret (v := .agg #[.int .i64 A, .int .i64 K, .int .i64 N, .string ⟨S.toArray⟩, .slice p4 ts.length c4, .slice p2 ns.length c2, .slice q xs.length cq]) (by simp [results, Tryz.results8, go_sem, f0, f1, f2, f3, f4, f5, f6]) rfl ⟨⟨.int .i64 A, .int .i64 K, .int .i64 N, .string ⟨S.toArray⟩, .slice p4 ts.length c4, .slice p2 ns.length c2, .slice q xs.length cq, rfl, ?_, fun W' hW' => ?_⟩, bF⟩
      ·intro x hx
       simp [zbd] at hx
       rcases hx with rfl | rfl | rfl | rfl | rfl | rfl | rfl <;> rfl
      ·obtain ⟨⟨⟨_, g1⟩, g2⟩, g3⟩ := rF W' hW'
       exact ⟨⟨p4, p2, q, c4, c2, cq, rfl, g2, g1, g3.1⟩, ⟨_, _, _, _, _, _, _, rfl, g3.2⟩⟩
theorem ownx_any (D : Nat) : ∀ d, OwnXAt D d
 | 0 => fun t => nomatch t
 | d + 1 => ownx_step D d (ownx_any D d)
end Go.Proofs.YtmpbbmfbgcpplaaGreatDoor
