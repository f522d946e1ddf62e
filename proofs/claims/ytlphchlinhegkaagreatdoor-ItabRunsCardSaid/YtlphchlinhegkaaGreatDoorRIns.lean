/-
  slices.Insert ahead of one element, at pairs of ints, walked: in place where there is room, else into a new row. Own work.
-/
import Derived.Test.YtlphchlinhegkaaGreatDoorProg
import Derived.Test.YtlphchlinhegkaaGreatDoorAmIn
import Derived.WalkKit
import Derived.Outline
import Derived.Handy
import Derived.Lib.Overlaps
import Derived.Lib.AppendZerosOnto
import Derived.Laws.Externs
import Derived.BigRegion
import Derived.Deep.RegionLaw
namespace Go.Proofs.YtlphchlinhegkaaGreatDoor
open Go Go.RowKit Am

theorem pair_info : ∃ i, Tryz.prog.info? 53 = some i ∧ i.size = 2 ∧ i.bytes = 16 ∧ i.zero = some (.agg #[.int .i64 0, .int .i64 0]) := by
  obtain ⟨i, hi, h⟩ := Option.map_eq_some_iff.1 (show (Tryz.prog.info? 53).map (fun i => (i.size, i.bytes, i.zero)) = some (2, 16, some (.agg #[.int .i64 0, .int .i64 0])) by kernel_rfl)
  simp only [Prod.mk.injEq] at h
  exact ⟨i, hi, h.1, h.2.1, h.2.2⟩
theorem ins_over (w : World) (b vb vc lb cb : Nat) (cc cv : Array Value) (hvb : vb ≠ b) (hb : w.heap[b]? = some (.cells cc 53)) (hz : cc.size ≠ 0) (hv : w.heap[vb]? = some (.cells cv 53)) :
    (callFunc 127 #[.slice (some ⟨vb, 0, none⟩) 1 vc, .slice (some ⟨b, 2, none⟩) lb cb]).run Tryz.prog w = .ok (.value (.bool false)) w := by
  rw [run_callFunc_extern Tryz.func127 (by kernel_rfl) (by kernel_rfl) (by kernel_rfl) (e := Extern.SlicesOverlaps.overlaps #[54, 54] #[4]) (by kernel_rfl),
    Lib.run_overlaps_apart w 54 4 53 Tryz.underlying54 2 Tryz.sizeOf53 ⟨vb, 0, none⟩ ⟨b, 2, none⟩ 1 vc lb cb hvb 53 53 cv.size cc.size (shape_of hv) (shape_of hb) hz (frozen_at_block hv 0) (frozen_at_block hv cv.size)]
  rfl
theorem two_cells {w : World} {b o : Nat} {x y : Value} (h0 : w.cell? ⟨b, o, none⟩ = some x) (h1 : w.cell? ⟨b, o + 1, none⟩ = some y) : ∀ (j : Nat) (v : Value), [x, y][j]? = some v → w.cell? ((⟨b, o, none⟩ : Addr).add j) = some v := fun j v hj => by
  rw [Addr.add_lit]
  match j, hj with
  | 0, hj => obtain rfl := Option.some.inj hj; exact h0
  | 1, hj => obtain rfl := Option.some.inj hj; exact h1
set_option maxHeartbeats 4000000 in
set_option maxRecDepth 100000 in
theorem ins_shift : InsShift Tryz.prog 88 53 := by
  intro b C vb vc cc cv p q x y w hC hvb hb hsz hp hq hv hx hy op oq ox oy
  obtain ⟨i, hi, hi2, _, _⟩ := pair_info
  have hund := Tryz.underlying54
  have hov : ∀ lb cb, (callFunc 127 #[.slice (some ⟨vb, 0, none⟩) 1 vc, .slice (some ⟨b, 2, none⟩) lb cb]).run Tryz.prog w = .ok (.value (.bool false)) w := fun lb cb => ins_over w b vb vc lb cb cc cv hvb hb (by omega) hv
  have hcp1 : ∀ ty dc sc, (Builtin.copy_ #[54, 54] ty #[.slice (some ⟨b, 2, none⟩) 1 dc, .slice (some ⟨b, 0, none⟩) 2 sc]).run Tryz.prog w.drew = .ok (.int .i64 1) (w.drew.setCells b 2 [p, q]) := fun ty dc sc =>
    copy_at (w := w.drew) (ty := ty) hund hi b 2 1 dc 2 sc 1 ⟨b, 0, none⟩ [p, q] rfl (by rw [hi2]; rfl) (two_cells (by rw [cell_at_block (w := w.drew) hb]; exact hp) (by rw [cell_at_block (w := w.drew) hb]; exact hq)) (fun j hj => by rw [cell_at_block (w := w.drew) hb]; have : j < 2 := hj; simp; omega) (fun j hj => frozen_at_block (w := w.drew) hb _) (fun v hv => by simp only [List.mem_cons, List.not_mem_nil, or_false] at hv; rcases hv with rfl | rfl <;> assumption)
  obtain ⟨f1, m1, m2, m3, m4, m5, m6, m7⟩ := setCells_heap [p, q] 2 w.drew cc hb (by simp; omega)
  obtain ⟨W1, hW1⟩ : ∃ W1, W1 = w.drew.setCells b 2 [p, q] := ⟨_, rfl⟩
  rw [← hW1] at hcp1 m1 m3
  have fs1 : f1.size = cc.size := by have := congrArg List.length m2; rw [putN_len] at this; simpa using this
  have hv1 : W1.heap[vb]? = some (.cells cv 53) := by rw [m3 vb hvb]; exact hv
  have hcp2 : ∀ ty dc, (Builtin.copy_ #[54, 54] ty #[.slice (some ⟨b, 0, none⟩) 2 dc, .slice (some ⟨vb, 0, none⟩) 1 vc]).run Tryz.prog W1 = .ok (.int .i64 1) (W1.setCells b 0 [x, y]) := fun ty dc =>
    copy_at (w := W1) (ty := ty) hund hi b 0 2 dc 1 vc 1 ⟨vb, 0, none⟩ [x, y] rfl (by rw [hi2]; rfl) (two_cells (by rw [cell_at_block hv1]; exact hx) (by rw [cell_at_block hv1]; exact hy)) (fun j hj => by rw [cell_at_block m1]; have : j < 2 := hj; simp; omega) (fun j hj => frozen_at_block m1 _) (fun v hv => by simp only [List.mem_cons, List.not_mem_nil, or_false] at hv; rcases hv with rfl | rfl <;> assumption)
  have c0 : ¬ (C = 0) := by omega
  have c1 : ¬ (C = 1) := by omega
  have c2 : ¬ ((C : Int) < 2) := by omega
  have c3 : 1 ≤ C := by omega
  have c4 : (2 : Int) ≤ (C : Int) := by omega
  have w1 : IntKind.i64.wrap 1 = 1 := rfl
  have w2 : IntKind.i64.wrap 2 = 2 := rfl
  rw [← hW1]
  clear hb hv hW1 m1 m2 m3 m4 m5 m6 m7 hv1 fs1
  go_enter Tryz.func88, Tryz.ntmps88
  go_wp2_with (simp only [hov])
  go_region_law (refine step_copy_eq rfl (.tmp 73) (.tmp 76) 54 rfl (by simp [Act.eval, Act.put]) (by simp [Act.eval, Act.put]) (hcp1 _ _ _) ?_)
  go_wp2_with (at_builtin; refine wpList_copy_eq rfl (.tmp 80) (.tmp 81) 54 rfl rfl rfl (hcp2 _ _) ?_)
  go_ret
  exact ⟨rfl, rfl⟩
set_option maxHeartbeats 4000000 in
set_option maxRecDepth 100000 in
theorem ins_grow : InsGrow Tryz.prog 88 53 := by
  intro b vb vc cc cv p q x y w hb hp hq hv hx hy op oq ox oy
  obtain ⟨i, hi, hi2, hib, hiz⟩ := pair_info
  have hund := Tryz.underlying54
  have hbl : b < w.heap.size := (Array.getElem?_eq_some_iff.1 hb).1
  have hvl : vb < w.heap.size := (Array.getElem?_eq_some_iff.1 hv).1
  obtain ⟨G, hG⟩ : ∃ G, G = grownCap w 2 1 53 := ⟨_, rfl⟩
  have hG2 : 2 ≤ G := by rw [hG]; exact grownCap_ge w _ _ _
  have hold : (Builtin.firstCells i.size 0 (.slice (some ⟨b, 0, none⟩) 0 1)).run Tryz.prog w.drew = .ok (([] : List Value).toArray) w.drew := run_firstCells_some w.drew i.size 0 ⟨b, 0, none⟩ 0 1 [] (by simp) (fun j v h => by simp at h)
  obtain ⟨ROW, hROW⟩ : ∃ ROW : Array Value, ROW = ([] : List Value).toArray ++ Builtin.zeroCells (Value.agg #[.int .i64 0, .int .i64 0]).cells 2 ++ Builtin.zeroCells (Value.agg #[.int .i64 0, .int .i64 0]).cells (G - 2) := ⟨_, rfl⟩
  have hRs : ROW.size = G * 2 := by
    rw [hROW]
    simp [Builtin.zeroCells, Value.cells]
    omega
  have hap : ∀ ty, (Builtin.append_ #[54, 3] ty #[.slice (some ⟨b, 0, none⟩) 0 1, .int .i64 2]).run Tryz.prog w = .ok (.slice (some ⟨w.heap.size, 0, none⟩) 2 G) (w.drew.alloc (.cells ROW 53)) := fun ty => by
    have h := Lib.run_append_grow_zeros w 54 3 ty 53 i _ .i64 .i64 hund Tryz.underlying3 hi hiz (some ⟨b, 0, none⟩) 0 1 [] hold 2 (by omega) (by rw [hi2]; omega) (by omega) (by decide) (by rw [hib]; omega) (by rw [hib]; decide)
    rw [hROW, hG]
    exact h
  obtain ⟨g, hg⟩ : ∃ g, g = w.heap.size := ⟨_, rfl⟩
  obtain ⟨W1, hW1⟩ : ∃ W1, W1 = w.drew.alloc (.cells ROW 53) := ⟨_, rfl⟩
  have n1 : W1.heap[g]? = some (.cells ROW 53) := by rw [hW1, hg]; first | exact heap_alloc_new w.drew _ | simp
  have n2 : W1.heap[vb]? = some (.cells cv 53) := by rw [hW1]; exact (heap_alloc_old w.drew _ hvl).trans hv
  have n3 : W1.heap[b]? = some (.cells cc 53) := by rw [hW1]; exact (heap_alloc_old w.drew _ hbl).trans hb
  have hB1 : Below w.heap.size w W1 := by rw [hW1]; exact (Below.refl w.heap.size w).drew.alloc (by simp) _
  rw [← hW1, ← hg] at hap
  have hcpA : ∀ ty dc, (Builtin.copy_ #[54, 54] ty #[.slice (some ⟨g, 0, none⟩) 2 dc, .slice (some ⟨vb, 0, none⟩) 1 vc]).run Tryz.prog W1 = .ok (.int .i64 1) (W1.setCells g 0 [x, y]) := fun ty dc =>
    copy_at (w := W1) (ty := ty) hund hi g 0 2 dc 1 vc 1 ⟨vb, 0, none⟩ [x, y] rfl (by rw [hi2]; rfl) (two_cells (by rw [cell_at_block n2]; exact hx) (by rw [cell_at_block n2]; exact hy)) (fun j hj => by rw [cell_at_block n1]; have : j < 2 := hj; simp; omega) (fun j hj => frozen_at_block n1 _) (fun v hv => by simp only [List.mem_cons, List.not_mem_nil, or_false] at hv; rcases hv with rfl | rfl <;> assumption)
  obtain ⟨f1, m1, m2, m3, m4, m5, m6, m7⟩ := setCells_heap [x, y] 0 W1 ROW n1 (by simp; omega)
  have fs1 : f1.size = ROW.size := by have := congrArg List.length m2; rw [putN_len] at this; simpa using this
  obtain ⟨W2, hW2⟩ : ∃ W2, W2 = W1.setCells g 0 [x, y] := ⟨_, rfl⟩
  rw [← hW2] at hcpA m1 m3 m4 m5 m6 m7
  have n4 : W2.drew.heap[b]? = some (.cells cc 53) := (m3 b (by omega)).trans n3
  have n5 : W2.drew.heap[g]? = some (.cells f1 53) := m1
  have hcpB : ∀ ty dc sc, (Builtin.copy_ #[54, 54] ty #[.slice (some ⟨g, 2, none⟩) 1 dc, .slice (some ⟨b, 0, none⟩) 1 sc]).run Tryz.prog W2.drew = .ok (.int .i64 1) (W2.drew.setCells g 2 [p, q]) := fun ty dc sc =>
    copy_at (w := W2.drew) (ty := ty) hund hi g 2 1 dc 1 sc 1 ⟨b, 0, none⟩ [p, q] rfl (by rw [hi2]; rfl) (two_cells (by rw [cell_at_block n4]; exact hp) (by rw [cell_at_block n4]; exact hq)) (fun j hj => by rw [cell_at_block n5]; have : j < 2 := hj; simp; omega) (fun j hj => frozen_at_block n5 _) (fun v hv => by simp only [List.mem_cons, List.not_mem_nil, or_false] at hv; rcases hv with rfl | rfl <;> assumption)
  obtain ⟨f2, l1, l2, l3, l4, l5, l6, l7⟩ := setCells_heap [p, q] 2 W2.drew f1 n5 (by simp; omega)
  obtain ⟨W3, hW3⟩ : ∃ W3, W3 = W2.drew.setCells g 2 [p, q] := ⟨_, rfl⟩
  rw [← hW3] at hcpB l1 l3 l4 l5 l6 l7
  have fs2 : f2.size = f1.size := by have := congrArg List.length l2; rw [putN_len] at this; simpa using this
  have hfour : f2.toList.take 4 = [x, y, p, q] := by
    rw [l2, m2]
    match hcl : ROW.toList, (show 4 ≤ ROW.toList.length by simp; omega) with
    | z0 :: z1 :: z2 :: z3 :: zs, _ => simp [putN]
    | [], h => simp at h
    | [_], h => simp at h
    | [_, _], h => simp at h
    | [_, _, _], h => simp at h
  have hgw : w.heap.size ≤ g := by rw [hg]; exact Nat.le_refl _
  have hB3 : Below w.heap.size w W3 := ⟨by rw [l5]; exact m5.trans hB1.os, by rw [l6]; exact m6.trans hB1.tape, by rw [l7]; exact m7.trans hB1.output, by rw [l4]; show _ ≤ W2.heap.size; rw [m4]; exact hB1.size, fun k hk => by
    rw [l3 k (by omega)]
    show W2.heap[k]? = _
    rw [m3 k (by omega)]
    exact hB1.block k hk⟩
  have c0 : ¬ (G = 0) := by omega
  have c1 : ¬ (G = 1) := by omega
  have c3 : 1 ≤ G := by omega
  have w1 : IntKind.i64.wrap 1 = 1 := rfl
  have w2 : IntKind.i64.wrap 2 = 2 := rfl
  clear hb hv hW1 hW2 hW3 hg hG hROW m1 m2 m3 m4 m5 m6 m7 n1 n2 n3 n4 n5 hB1 hold l2 l3 l4 l5 l6 l7 hbl hvl
  go_enter Tryz.func88, Tryz.ntmps88
  go_wp2_with (at_builtin; first | refine wpList_app_eq rfl (.tmp 34) (.tmp 39) 54 3 rfl rfl rfl (hap _) ?_ | refine wpList_copy_eq rfl (.tmp 43) (.tmp 44) 54 rfl rfl rfl (hcpA _ _) ?_)
  go_region_law (refine step_copy_eq rfl (.tmp 50) (.tmp 53) 54 rfl (by simp [Act.eval, Act.put]) (by simp [Act.eval, Act.put]) (hcpB _ _ _) ?_)
  go_wp2
  go_ret
  exact ⟨g, G, f2, rfl, hgw, hG2, by omega, l1, hfour, hB3⟩
theorem ins_fn : CallOk Tryz.prog (fun f' args s k => cond (Nat.beq f' 88) (xInsert 53 args s k) false) := ins_ok (by kernel_rfl) ins_shift ins_grow
end Go.Proofs.YtlphchlinhegkaaGreatDoor
