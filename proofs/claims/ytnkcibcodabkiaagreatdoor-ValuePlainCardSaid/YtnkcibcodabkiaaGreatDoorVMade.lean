/-
  coillaw6.Made of int, text and bool, called in a walk; how many classes there are. Own work.
-/
import Derived.Test.YtnkcibcodabkiaaGreatDoorVTk
namespace Go.Proofs.YtnkcibcodabkiaaGreatDoor
open Go Go.RowKit Go.Proofs Am

abbrev types3 : Array Value := #[.int .i64 1, .string .empty, .slice none 0 0, .slice none 0 0, .slice none 0 0, .int .i64 3, .string .empty, .slice none 0 0, .slice none 0 0, .slice none 0 0, .int .i64 2, .string .empty, .slice none 0 0, .slice none 0 0, .slice none 0 0]
theorem mem_at {α : Type} {l : List α} {x : α} (k : Nat) (h : l[k]? = some x) : x ∈ l := List.mem_of_getElem? h
theorem out_made : ∀ p ∈ CR, ∃ m, (m, p.1, p.2) ∈ P.i1.out := by
  intro p hp
  simp only [CR, List.mem_cons, List.not_mem_nil, or_false] at hp
  rcases hp with rfl | rfl | rfl | rfl | rfl | rfl | rfl | rfl
  · exact ⟨70, mem_at 0 rfl⟩
  · exact ⟨149, mem_at 3 rfl⟩
  · exact ⟨227, mem_at 6 rfl⟩
  · exact ⟨228, mem_at 7 rfl⟩
  · exact ⟨262, mem_at 10 rfl⟩
  · exact ⟨387, mem_at 11 rfl⟩
  · exact ⟨388, mem_at 12 rfl⟩
  · exact ⟨392, mem_at 13 rfl⟩
theorem outm_made : ∀ p ∈ CM, ∃ m, (m, p.1, p.2) ∈ P.i1.outm := by
  intro p hp
  simp only [CM, List.mem_cons, List.not_mem_nil, or_false] at hp
  rcases hp with rfl | rfl
  · exact ⟨13, mem_at 0 rfl⟩
  · exact ⟨15, mem_at 1 rfl⟩
theorem lies_one : liesB [P.r0] [] 1 = true := by kernel_rfl
theorem lies_all : liesB CR CM 29 = true := by kernel_rfl
theorem no_rows (n : Nat) : nilSt.get n = none := nil_get n
theorem l2_types {ρ : Rho} : L2 ρ P.r0.2.cells types3.toList := by
  show L2 ρ [vi 1, vs [], vz, vz, vz, vi 3, vs [], vz, vz, vz, vi 2, vs [], vz, vz, vz] _
  have i : ∀ (n : Nat), VR ρ (vi n) (.int .i64 n) := fun n => by rw [VR]; rfl
  have e : VR ρ (vs []) (.string .empty) := by rw [VR]; rfl
  have z : VR ρ vz (.slice none 0 0) := by rw [VR]; exact ⟨rfl, rfl⟩
  exact L2.cons (i 1) (L2.cons e (L2.cons z (L2.cons z (L2.cons z (L2.cons (i 3) (L2.cons e (L2.cons z (L2.cons z (L2.cons z (L2.cons (i 2) (L2.cons e (L2.cons z (L2.cons z (L2.cons z (L2.nil _)))))))))))))))
set_option maxHeartbeats 1000000 in
theorem made_at (w : World) (hG : GlobOk w) :
    Calls Tryz.prog 7 #[.agg #[.slice none 0 0, .slice none 0 0], .slice (some ⟨w.heap.size, 0, none⟩) 3 3] (w.alloc (.cells types3 36)) fun e w' => ∃ ρ C a, e = .returned (.tuple #[C, .pointer (some a)]) ∧ At w.heap.size ρ 29 C w' ∧ Below w.heap.size w w' := by
  obtain ⟨s0, h0⟩ := lies_of lies_one
  obtain ⟨s1, h1⟩ := lies_of lies_all
  have hR := ((R.nil hG).new (s' := s0) (w' := w.alloc (.cells types3 36)) (b := w.heap.size) (sz := 5) (c := types3) (cs := P.r0.2.cells) (ty := 36) (by rw [h0.c]; rfl) (fun m q hq => by
      have := List.mem_singleton.1 (h0.rows m q hq)
      obtain ⟨rfl, rfl⟩ := Prod.mk.inj this
      exact .inl ⟨rfl, rfl⟩)
    (fun m => by
      unfold St.gi
      have e1 : s0.gm m = none := by
        cases hq : s0.gm m with
        | none => rfl
        | some es => exact absurd (h0.maps m es hq) (by simp)
      rw [e1, h0.it, nil_gm m]
      rfl) (Nat.le_refl _) (by show (w.heap.push _)[w.heap.size]? = _; simp) (by simp) (fun k hk => heap_alloc_old w _ hk) (by exact l2_types) (by decide) (by decide) (fun h => by cases h) rfl rfl rfl).1
  have ha : L2 (upd (fun _ => none) nilSt.c (w.heap.size, types3.size, 5)) P.i1.args [.agg #[.slice none 0 0, .slice none 0 0], .slice (some ⟨w.heap.size, 0, none⟩) 3 3] := by
    have z : ∀ ρ, VR ρ vz (.slice none 0 0) := fun ρ => by rw [VR]; exact ⟨rfl, rfl⟩
    refine L2.cons (vr_agg.2 ⟨#[.slice none 0 0, .slice none 0 0], rfl, L2.cons (z _) (L2.cons (z _) (L2.nil _)), by decide⟩) (L2.cons ?_ (L2.nil _))
    rw [VR]
    exact ⟨⟨w.heap.size, 0, none⟩, 3, (w.heap.size, 15, 5), rfl, by decide, .inr rfl, upd_same _ _ _, fun _ => (show 3 * 5 ≤ 15 by decide), fun _ => rfl⟩
  refine (oMade.2 _ s0 _ _ hR ha ⟨h0.c, h0.it, fun p hp => h0.row p hp, fun p hp => (by cases hp), fun p hp => (by cases hp), fun p hp => (by cases hp)⟩).mono ?_
  rintro e w' ⟨u, ρ', rfl, hu, hp⟩
  obtain ⟨hR2, hx⟩ := hp s1 ⟨h1.c, fun n r hr => .inl (out_made _ (h1.rows n r hr)), fun n r hr => .inl (outm_made _ (h1.maps n r hr))⟩
  obtain ⟨ys, rfl, hy⟩ := vr_tuple.1 hu
  obtain ⟨C, r, hyl, k1, hr⟩ := hy.inv
  obtain ⟨o, r2, rfl, k2, hr2⟩ := hr.inv
  obtain rfl := List.length_eq_zero_iff.1 hr2.1
  have ey : ys = #[C, o] := Array.toList_inj.1 hyl
  subst ey
  rw [VR] at k2
  obtain ⟨a, _, rfl⟩ := k2
  have hs1 : (w.alloc (.cells types3 36)).heap.size = w.heap.size + 1 := by simp
  have hown : ∀ k, Own (upd (fun _ => none) nilSt.c (w.heap.size, types3.size, 5)) s0 k → k = w.heap.size := by
    rintro k ⟨n, x, h2, h3, rfl⟩
    unfold upd at h3
    split at h3
    · obtain rfl := Option.some.inj h3; rfl
    · cases h3
  have hb1 : Below w.heap.size w (w.alloc (.cells types3 36)) := (Below.refl _ _).alloc (Nat.le_refl _) _
  have hb : Below w.heap.size w w' := hb1.trans ⟨hx.os, hx.tape, hx.output, hx.size, fun k hk => hx.frame k (by rw [hs1]; omega) fun ho => by have := hown k ho; omega⟩
  refine ⟨ρ', C, a, rfl, ⟨⟨⟨s1, h1, hR2⟩, fun n x hn hx' => ?_⟩, k1, hb.size⟩, hb⟩
  rcases hx.own x.1 ⟨n, x, by
      rcases hn with ⟨r, hn⟩ | ⟨es, hn⟩
      · exact .inl ⟨r, h1.row _ hn⟩
      · exact .inr ⟨es, h1.map _ hn⟩, hx', rfl⟩ with h2 | h2
  · rw [hown _ h2]; exact Nat.le_refl _
  · omega
/-- how many classes there are. -/
theorem len_at {B : Nat} {ρ : Rho} {c : Nat} {C : Value} {w : World} (h : At B ρ c C w) : Calls Tryz.prog 17 #[C] w fun e w' => e = .returned (.int .i64 3) ∧ w = w' := by
  obtain ⟨s, h1, h2⟩ := h.held.rel
  have hv := h.val
  rw [VR] at hv
  obtain ⟨_, ⟨x, hx, rfl⟩, rfl⟩ := hv
  obtain ⟨c0, g1, g2, g3, g4, _⟩ := h2.row (h1.row (16, ⟨[(vp 13 0),(vl 15 0 3 4),(vl 14 0 3 4)], 97, 0⟩) (mem_at 7 rfl)) hx
  obtain ⟨v, hv1, hv2⟩ := g4.2 1 _ rfl
  rw [VR] at hv2
  obtain ⟨b, cap, y, rfl, _⟩ := hv2
  have c1 : w.cell? ⟨x.1, 1, none⟩ = some (.slice (some b) 3 cap) := by
    rw [cell_at_block g1, ← Array.getElem?_toList]
    rw [List.getElem?_take] at hv1
    split at hv1
    · exact hv1
    · cases hv1
  clear h h1 h2 g1 g2 g3 g4 hv1 hx
  go_enter Tryz.func17, Tryz.ntmps17
  go_wp2
  go_ret
  exact ⟨rfl, rfl⟩
end Go.Proofs.YtnkcibcodabkiaaGreatDoor
