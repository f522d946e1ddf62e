/-
  value.Text at values without parts: what read answers is worked out apart, what is written is walked. Own work.
-/
import Derived.Test.YtnkcibcodabkiaaGreatDoorVIns
import Derived.Test.YtnkcibcodabkiaaGreatDoorVTe
namespace Go.Proofs.YtnkcibcodabkiaaGreatDoor
open Go Go.RowKit Go.Proofs Am

def ShAt (b : Nat) (c g m : Value) (w : World) : Prop := w.heap[b]? = some (.cells #[c, g, m] 110 (0, 0))
theorem ShAt.lt {b : Nat} {c g m : Value} {w : World} (h : ShAt b c g m w) : b < w.heap.size := (Array.getElem?_eq_some_iff.1 h).1
theorem ShAt.set0 {b : Nat} {c g m : Value} {w : World} (h : ShAt b c g m w) (q : Value) : ShAt b q g m (w.setCell ⟨b, 0, none⟩ q) := by
  show (w.setCell ⟨b, 0, none⟩ q).heap[b]? = _
  have hlt := h.lt
  simp [World.setCell, Array.getElem?_modify, show w.heap[b]? = _ from h]
theorem ShAt.set1 {b : Nat} {c g m : Value} {w : World} (h : ShAt b c g m w) (q : Value) : ShAt b c q m (w.setCell ⟨b, 1, none⟩ q) := by
  show (w.setCell ⟨b, 1, none⟩ q).heap[b]? = _
  have hlt := h.lt
  simp [World.setCell, Array.getElem?_modify, show w.heap[b]? = _ from h]
theorem ShAt.set2 {b : Nat} {c g m : Value} {w : World} (h : ShAt b c g m w) (q : Value) : ShAt b c g q (w.setCell ⟨b, 2, none⟩ q) := by
  show (w.setCell ⟨b, 2, none⟩ q).heap[b]? = _
  have hlt := h.lt
  simp [World.setCell, Array.getElem?_modify, show w.heap[b]? = _ from h]
theorem store_sh {b : Nat} {c g m : Value} {w : World} (h : ShAt b c g m w) (j : Nat) (hj : j < 3) (x : Value) (hx : x.oneCell' = true) : (store ⟨b, j, none⟩ x).run Tryz.prog w = .ok () (w.setCell ⟨b, j, none⟩ x) := by
  have hc : ∃ u, w.cell? ⟨b, j, none⟩ = some u := by
    rw [Lib.cell_of_heap h]
    match j, hj with
    | 0, _ => exact ⟨_, rfl⟩
    | 1, _ => exact ⟨_, rfl⟩
    | 2, _ => exact ⟨_, rfl⟩
  obtain ⟨u, hc⟩ := hc
  have hf : w.frozen? ⟨b, j, none⟩ = false := Lib.frozen_of_heap h j
  rw [run_store Tryz.prog w ⟨b, j, none⟩ _ _ hx]
  simp [hc, hf]
/-- the classes' value, and what lies of them. -/
structure At (B : Nat) (ρ : Rho) (c : Nat) (C : Value) (w : World) : Prop where
  held : Held CR CM B ρ c w
  val : VR ρ (vp 16 0) C
  low : B ≤ w.heap.size
theorem At.ptr {B : Nat} {ρ : Rho} {c : Nat} {C : Value} {w : World} (h : At B ρ c C w) : ∃ a, C = .pointer (some a) := by
  have := h.val
  rw [VR] at this
  obtain ⟨b, _, rfl⟩ := this
  exact ⟨_, rfl⟩
set_option maxHeartbeats 1000000 in
/-- read, called in a walk. -/
theorem read_at {B : Nat} {ρ : Rho} {n : Nat} {C : Value} {w : World} (h : At B ρ n C w) {cells : List Value} {cls kind : Nat} {ok : Bool} (hI : InstOk Tryz.prog (readI n cells cls kind ok)) {vs : Array Value} (hn : 17 ≤ n)
    (e1 : liesB (CR ++ [(n, ⟨cells, 47, 0⟩)]) CM (n + 1) = true) (e2 : liesB (CR ++ [(n, ⟨cells, 47, 0⟩)]) CM (n + 3) = true) (e3 : liesB CR CM (n + 3) = true)
    (hv : L2 ρ cells vs.toList) (hone : ∀ v ∈ cells, Am.one v = true) (hdet : ∀ v ∈ cells, detV v = true) :
    Calls Tryz.prog 35 #[C, .pointer (some ⟨w.heap.size, 0, none⟩)] (w.alloc (.cells vs 47)) fun e w' => ∃ ρ' g m, e = .returned (.tuple #[.agg #[C, g, m], .bool ok]) ∧ g.oneCell' = true ∧ m.oneCell' = true ∧ Sub ρ ρ' ∧ At B ρ' (n + 3) C w' ∧ Below B w w' ∧ w'.heap[w.heap.size]? = some (.cells vs 47) := by
  have hdom := h.held.dom
  have hsub := sub_upd hdom (w.heap.size, vs.size, 0)
  have hl : ∀ p ∈ CR, p.1 < n := by
    intro p hp
    simp only [CR, List.mem_cons, List.not_mem_nil, or_false] at hp
    rcases hp with rfl | rfl | rfl | rfl | rfl | rfl | rfl | rfl <;> (simp only; omega)
  have hm : ∀ p ∈ CM, p.1 < n := by
    intro p hp
    simp only [CM, List.mem_cons, List.not_mem_nil, or_false] at hp
    rcases hp with rfl | rfl <;> (simp only; omega)
  have hc := h.held.call hI h.low (vs := vs) (vr := cells) (ty := 47) (us := [C, .pointer (some ⟨w.heap.size, 0, none⟩)]) e1 e2 e3 (show n + 1 ≤ n + 3 by omega) rfl rfl rfl rfl rfl
    (fun q hq => by obtain rfl := List.mem_singleton.1 hq; exact Nat.le_refl _) (fun q hq => by obtain rfl := List.mem_singleton.1 hq; exact Nat.le_succ _) hl hm hv hone hdet
    (L2.cons (h.val.mono hsub) (L2.cons (by rw [VR]; exact ⟨_, ⟨(w.heap.size, vs.size, 0), upd_same _ _ _, rfl⟩, rfl⟩) (L2.nil _)))
  refine hc.mono ?_
  rintro e w' ⟨u, ρ', rfl, hu, hs, hH, hb, hbk⟩
  obtain ⟨ys, rfl, hy⟩ := vr_tuple.1 hu
  obtain ⟨a, r, hyl, h1, hr⟩ := hy.inv
  obtain ⟨o, r2, rfl, h2, hr2⟩ := hr.inv
  obtain rfl := List.length_eq_zero_iff.1 hr2.1
  obtain ⟨zs, rfl, hz, _⟩ := vr_agg.1 h1
  obtain ⟨c', q, hzl, k1, hq⟩ := hz.inv
  obtain ⟨g, q2, rfl, k2, hq2⟩ := hq.inv
  obtain ⟨m, q3, rfl, k3, hq3⟩ := hq2.inv
  obtain rfl := List.length_eq_zero_iff.1 hq3.1
  obtain rfl : c' = C := VR.det hs rfl h.val k1
  obtain rfl : o = .bool ok := by rw [VR] at h2; exact h2
  have ez : zs = #[c', g, m] := Array.toList_inj.1 hzl
  have ey : ys = #[.agg zs, .bool ok] := Array.toList_inj.1 hyl
  subst ez ey
  refine ⟨ρ', g, m, rfl, ?_, ?_, hs, ⟨hH, h.val.mono hs, Nat.le_trans h.low hb.size⟩, hb, hbk⟩
  · rw [VR] at k2; obtain ⟨b, _, rfl⟩ := k2; rfl
  · rw [VR] at k3; obtain ⟨x, _, rfl⟩ := k3; rfl
set_option maxHeartbeats 2000000 in
set_option maxRecDepth 100000 in
/-- Text, where the value is right. -/
theorem Text_yes {B : Nat} {ρ : Rho} {n : Nat} {C : Value} {w : World} (h : At B ρ n C w) {cells : List Value} {cls kind : Nat} (hI : InstOk Tryz.prog (readI n cells cls kind true)) {k cl N : Int} {sv : ByteArray} (S : ByteArray) (hn : 17 ≤ n)
    (e1 : liesB (CR ++ [(n, ⟨cells, 47, 0⟩)]) CM (n + 1) = true) (e2 : liesB (CR ++ [(n, ⟨cells, 47, 0⟩)]) CM (n + 3) = true) (e3 : liesB CR CM (n + 3) = true)
    (hv : L2 ρ cells [.int .i64 k, .int .i64 cl, .int .i64 N, .string sv, .slice none 0 0]) (hone : ∀ v ∈ cells, Am.one v = true) (hdet : ∀ v ∈ cells, detV v = true)
    (TX : ∀ g m W, g.oneCell' = true → m.oneCell' = true → Below B w W → Calls Tryz.prog 36 #[.agg #[C, g, m], .agg #[.int .i64 k, .int .i64 cl, .int .i64 N, .string sv, .slice none 0 0]] W fun e w' => e = .returned (.tuple #[.string S, .int .i64 0]) ∧ Below W.heap.size W w') :
    Calls Tryz.prog 11 #[C, .agg #[.int .i64 k, .int .i64 cl, .int .i64 N, .string sv, .slice none 0 0]] w fun e w' => e = .returned (.tuple #[.string S, .int .i64 0]) ∧ ∃ ρ', Sub ρ ρ' ∧ At B ρ' (n + 3) C w' ∧ Below B w w' := by
  obtain ⟨ca, rfl⟩ := h.ptr
  have RD := hide (read_at h hI (vs := #[.int .i64 k, .int .i64 cl, .int .i64 N, .string sv, .slice none 0 0]) hn e1 e2 e3 hv hone hdet)
  have hlow := hide h.low
  have TX := hide TX
  clear hI e1 e2 e3 hv hone hdet h
  go_enter Tryz.func11, Tryz.ntmps11
  go_wp2_with (go_at_call 35; refine (unhide RD).mono ?_)
  clear RD
  rintro e W1 ⟨ρ', g, m, rfl, hg1, hm1, hs, hA, hb, hbk⟩
  have hA := hide hA
  have hs := hide hs
  have hlt : w.heap.size < W1.heap.size := (Array.getElem?_eq_some_iff.1 hbk).1
  go_wp2
  obtain ⟨W2, hW2⟩ : ∃ W2, W2 = W1.alloc (.cells #[.pointer (some ca), .pointer none, .map none] 110) := ⟨_, rfl⟩
  have h3 : ShAt W1.heap.size (.pointer (some ca)) (.pointer none) (.map none) W2 := by rw [hW2]; exact World.alloc_heap_new W1 _
  have k3 : W2.heap[w.heap.size]? = some (.cells #[.int .i64 k, .int .i64 cl, .int .i64 N, .string sv, .slice none 0 0] 47 (0, 0)) := by rw [hW2, Lib.alloc_old _ _ _ hlt]; exact hbk
  have b3 : Below W1.heap.size W1 W2 := by rw [hW2]; exact (Below.refl _ _).alloc (Nat.le_refl _) _
  rw [← hW2]
  clear hW2 hbk
  have h5 := h3.set1 g
  have h6 := h5.set2 m
  have hne : w.heap.size ≠ W1.heap.size := by omega
  have k6 := (Below.heap_setCell _ ⟨W1.heap.size, 2, none⟩ m _ hne).trans ((Below.heap_setCell W2 ⟨W1.heap.size, 1, none⟩ g _ hne).trans k3)
  have b6 := (b3.setCell (p := ⟨W1.heap.size, 1, none⟩) (Nat.le_refl _) g).setCell (p := ⟨W1.heap.size, 2, none⟩) (Nat.le_refl _) m
  rw [store_sh h3 1 (by decide) g hg1]
  simp only [Result.andThen]
  rw [store_sh h5 2 (by decide) m hm1]
  simp only
  rw [Oper.upon_skip]
  generalize (W2.setCell ⟨W1.heap.size, 1, none⟩ g).setCell ⟨W1.heap.size, 2, none⟩ m = W6 at h6 k6 b6 ⊢
  clear h3 h5 k3 b3 hne
  have s0 : W6.cell? ⟨W1.heap.size, 0, none⟩ = some (.pointer (some ca)) := by rw [Lib.cell_of_heap h6]; rfl
  have s1 : W6.cell? ⟨W1.heap.size, 1, none⟩ = some g := by rw [Lib.cell_of_heap h6]; rfl
  have s2 : W6.cell? ⟨W1.heap.size, 2, none⟩ = some m := by rw [Lib.cell_of_heap h6]; rfl
  have v0 : W6.cell? ⟨w.heap.size, 0, none⟩ = some (.int .i64 k) := by rw [Lib.cell_of_heap k6]; rfl
  have v1 : W6.cell? ⟨w.heap.size, 1, none⟩ = some (.int .i64 cl) := by rw [Lib.cell_of_heap k6]; rfl
  have v2 : W6.cell? ⟨w.heap.size, 2, none⟩ = some (.int .i64 N) := by rw [Lib.cell_of_heap k6]; rfl
  have v3 : W6.cell? ⟨w.heap.size, 3, none⟩ = some (.string sv) := by rw [Lib.cell_of_heap k6]; rfl
  have v4 : W6.cell? ⟨w.heap.size, 4, none⟩ = some (.slice none 0 0) := by rw [Lib.cell_of_heap k6]; rfl
  have hbB : Below B w W6 := hb.trans (b6.mono (Nat.le_trans (unhide hlow) hb.size))
  have T1 := hide (unhide TX g m W6 hg1 hm1 hbB)
  clear TX k6 h6 hb
  go_wp2_with (go_at_call 36; refine (unhide T1).mono ?_)
  clear T1
  rintro e W7 ⟨rfl, hb7⟩
  go_wp2
  go_ret2
  refine ⟨rfl, ρ', unhide hs, ?_, hbB.trans (hb7.mono (Nat.le_trans (unhide hlow) hbB.size))⟩
  have hA := unhide hA
  have b7 : Below W1.heap.size W1 W7 := b6.trans (hb7.mono b6.size)
  exact ⟨hA.held.below b7, hA.val, Nat.le_trans hA.low b7.size⟩
set_option maxHeartbeats 2000000 in
set_option maxRecDepth 100000 in
/-- Text, where it isn't. -/
theorem Text_no {B : Nat} {ρ : Rho} {n : Nat} {C : Value} {w : World} (h : At B ρ n C w) {cells : List Value} {cls kind : Nat} (hI : InstOk Tryz.prog (readI n cells cls kind false)) {k cl N : Int} {sv : ByteArray} (hn : 17 ≤ n)
    (e1 : liesB (CR ++ [(n, ⟨cells, 47, 0⟩)]) CM (n + 1) = true) (e2 : liesB (CR ++ [(n, ⟨cells, 47, 0⟩)]) CM (n + 3) = true) (e3 : liesB CR CM (n + 3) = true)
    (hv : L2 ρ cells [.int .i64 k, .int .i64 cl, .int .i64 N, .string sv, .slice none 0 0]) (hone : ∀ v ∈ cells, Am.one v = true) (hdet : ∀ v ∈ cells, detV v = true) :
    Calls Tryz.prog 11 #[C, .agg #[.int .i64 k, .int .i64 cl, .int .i64 N, .string sv, .slice none 0 0]] w fun e w' => e = .returned (.tuple #[.string .empty, .int .i64 1]) ∧ ∃ ρ', Sub ρ ρ' ∧ At B ρ' (n + 3) C w' ∧ Below B w w' := by
  obtain ⟨ca, rfl⟩ := h.ptr
  have RD := hide (read_at h hI (vs := #[.int .i64 k, .int .i64 cl, .int .i64 N, .string sv, .slice none 0 0]) hn e1 e2 e3 hv hone hdet)
  have hlow := hide h.low
  clear hI e1 e2 e3 hv hone hdet h
  go_enter Tryz.func11, Tryz.ntmps11
  go_wp2_with (go_at_call 35; refine (unhide RD).mono ?_)
  clear RD
  rintro e W1 ⟨ρ', g, m, rfl, hg1, hm1, hs, hA, hb, hbk⟩
  have hA := hide hA
  have hs := hide hs
  have hlt : w.heap.size < W1.heap.size := (Array.getElem?_eq_some_iff.1 hbk).1
  go_wp2
  obtain ⟨W2, hW2⟩ : ∃ W2, W2 = W1.alloc (.cells #[.pointer (some ca), .pointer none, .map none] 110) := ⟨_, rfl⟩
  have h3 : ShAt W1.heap.size (.pointer (some ca)) (.pointer none) (.map none) W2 := by rw [hW2]; exact World.alloc_heap_new W1 _
  have k3 : W2.heap[w.heap.size]? = some (.cells #[.int .i64 k, .int .i64 cl, .int .i64 N, .string sv, .slice none 0 0] 47 (0, 0)) := by rw [hW2, Lib.alloc_old _ _ _ hlt]; exact hbk
  have b3 : Below W1.heap.size W1 W2 := by rw [hW2]; exact (Below.refl _ _).alloc (Nat.le_refl _) _
  rw [← hW2]
  clear hW2 hbk
  have h5 := h3.set1 g
  have h6 := h5.set2 m
  have hne : w.heap.size ≠ W1.heap.size := by omega
  have k6 := (Below.heap_setCell _ ⟨W1.heap.size, 2, none⟩ m _ hne).trans ((Below.heap_setCell W2 ⟨W1.heap.size, 1, none⟩ g _ hne).trans k3)
  have b6 := (b3.setCell (p := ⟨W1.heap.size, 1, none⟩) (Nat.le_refl _) g).setCell (p := ⟨W1.heap.size, 2, none⟩) (Nat.le_refl _) m
  rw [store_sh h3 1 (by decide) g hg1]
  simp only [Result.andThen]
  rw [store_sh h5 2 (by decide) m hm1]
  simp only
  rw [Oper.upon_skip]
  generalize (W2.setCell ⟨W1.heap.size, 1, none⟩ g).setCell ⟨W1.heap.size, 2, none⟩ m = W6 at h6 k6 b6 ⊢
  clear h3 h5 k3 b3 hne
  have hbB : Below B w W6 := hb.trans (b6.mono (Nat.le_trans (unhide hlow) hb.size))
  clear k6 h6 hb
  go_wp2
  go_ret2
  have hA := unhide hA
  exact ⟨rfl, ρ', unhide hs, ⟨hA.held.below b6, hA.val, Nat.le_trans hA.low b6.size⟩, hbB⟩
end Go.Proofs.YtnkcibcodabkiaaGreatDoor
